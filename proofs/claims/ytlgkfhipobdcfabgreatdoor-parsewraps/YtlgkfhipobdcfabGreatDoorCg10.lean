/- The places of a tree lie in order. -/
import Derived.Test.YtlgkfhipobdcfabGreatDoorCg09
import Derived.Test.YtlgkfhipobdcfabGreatDoorCg08
namespace Go.Proofs.YtlgkfhipobdcfabGreatDoor

/-- A row's places: none ahead of q; in a block each behind the one before (the first: behind r). -/
def F.ord : Bool → Int → Int → F → Prop
  | _, _, _, .nil => True
  | b, q, r, .cons k _ _ p ks s => (q ≤ p ∧ (b = true → r < p) ∧ F.ord (decide (k = 20)) p (p - 1) ks) ∧ F.ord b q p s
/-- The last one's place. -/
def F.lp : Int → F → Int
  | r, .nil => r
  | _, .cons _ _ _ p _ s => F.lp p s
theorem F.ord_app (b : Bool) (q : Int) : ∀ (f g : F) (r : Int), (f.app g).ord b q r ↔ f.ord b q r ∧ g.ord b q (f.lp r)
  | .nil, g, r => by simp [F.app, F.ord, F.lp]
  | .cons k t n p ks s, g, r => by
    simp only [F.app, F.ord, F.lp]
    rw [F.ord_app b q s g p]
    exact ⟨fun h => ⟨⟨h.1, h.2.1⟩, h.2.2⟩, fun h => ⟨h.1.1, h.1.2, h.2⟩⟩
theorem F.lp_app : ∀ (f g : F) (r : Int), (f.app g).lp r = g.lp (f.lp r)
  | .nil, g, r => rfl
  | .cons k t n p ks s, g, r => by simp only [F.app, F.lp]; exact F.lp_app s g p
/-- A row with no place ahead of q. -/
def Rop (f : F) (q : Int) : Prop := ∀ r, f.ord false q r
/-- One tree at p, its places in order. -/
def Trp (f : F) (p : Int) : Prop := ∃ k t n ks, f = one k t n p ks ∧ ks.ord (decide (k = 20)) p (p - 1)
theorem Rop.nil {q : Int} : Rop .nil q := fun _ => trivial
theorem Rop.app {f g : F} {q : Int} (h : Rop f q) (h2 : Rop g q) : Rop (f.app g) q := fun r => (F.ord_app _ _ _ _ _).2 ⟨h r, h2 _⟩
theorem F.ord_mono : ∀ (f : F) (b : Bool) (q q' r : Int), q' ≤ q → f.ord b q r → f.ord b q' r
  | .nil, _, _, _, _, _, _ => trivial
  | .cons k t n p ks s, b, q, q', r, h, h2 => ⟨⟨by have := h2.1.1; omega, h2.1.2⟩, F.ord_mono s b q q' p h h2.2⟩
theorem Rop.mono {f : F} {p q : Int} (h : Rop f p) (hq : q ≤ p) : Rop f q := fun r => F.ord_mono f _ _ _ _ hq (h r)
theorem Trp.ro {f : F} {p q : Int} (h : Trp f p) (hq : q ≤ p) : Rop f q := by
  obtain ⟨k, t, n, ks, rfl, h⟩ := h
  intro r
  refine ⟨⟨hq, fun e => ?_, h⟩, trivial⟩
  exact absurd e (by decide)
theorem Trp.ordT {f : F} {p q r : Int} (h : Trp f p) (hq : q ≤ p) (hr : r < p) : f.ord true q r := by
  obtain ⟨k, t, n, ks, rfl, h⟩ := h
  exact ⟨⟨hq, fun _ => hr, h⟩, trivial⟩
theorem Trp.lp {f : F} {p : Int} (h : Trp f p) (r : Int) : f.lp r = p := by
  obtain ⟨k, t, n, ks, rfl, h⟩ := h
  rfl
theorem Trp.at {f : F} {p : Int} (h : Trp f p) : f.at = p := by
  obtain ⟨k, t, n, ks, rfl, h⟩ := h
  rfl
theorem Trp.mk {k n p q : Int} {t : List UInt8} {ks : F} (hk : k ≠ 20) (h : Rop ks p) (e : q = p) : Trp (one k t n q ks) p := by
  subst e
  exact ⟨k, t, n, ks, rfl, by rw [decide_eq_false hk]; exact h _⟩

/-- The tokens left: the end last, their places rising, none behind N. -/
structure Rsp (N : Int) (l : List Tok) : Prop where
  en : Ends l
  up : l.Pairwise fun a b => a.p < b.p
  le : ∀ t ∈ l, (t.p : Int) ≤ N
theorem Rsp.tl {N : Int} {l : List Tok} (h : Rsp N l) (hn : hc l ≠ 56) : Rsp N l.tail ∧ ha l < ha l.tail := by
  have e := h.en.tl hn
  cases l with
  | nil => exact absurd rfl h.en.ne
  | cons t l =>
    obtain ⟨u, l', e'⟩ := e.cons
    have e' : l = u :: l' := e'
    subst e'
    have h2 := List.pairwise_cons.1 h.up
    refine ⟨⟨e, h2.2, fun t ht => h.le t (List.mem_cons_of_mem _ ht)⟩, ?_⟩
    have := h2.1 u (List.mem_cons_self ..)
    show (t.p : Int) < (u.p : Int)
    omega
theorem Rsp.ha {N : Int} {l : List Tok} (h : Rsp N l) : 0 ≤ ha l ∧ ha l ≤ N := by
  cases l with
  | nil => exact absurd rfl h.en.ne
  | cons t l => exact ⟨Int.natCast_nonneg _, h.le t (List.mem_cons_self ..)⟩

/-- A going through: its trees and what is left are so; a refusal's place lies in the text. -/
def Wpl (N : Int) (x : PR) (R : F → List Tok → Prop) : Prop :=
  match x with
  | .ok f m => R f m
  | .bad p => 0 ≤ p ∧ p ≤ N
  | .out => True
theorem Wpl.ok {N : Int} {f : F} {m : List Tok} {R : F → List Tok → Prop} (h : R f m) : Wpl N (.ok f m) R := h
theorem Wpl.mono {N : Int} {x : PR} {Q R : F → List Tok → Prop} (h : Wpl N x Q) (hk : ∀ f m, Q f m → R f m) : Wpl N x R := by
  cases x with
  | ok f m => exact hk f m h
  | bad p => exact h
  | out => exact trivial
theorem Wpl.bind {N : Int} {x : PR} {k : F → List Tok → PR} {Q R : F → List Tok → Prop} (h : Wpl N x Q) (hk : ∀ f m, Q f m → Wpl N (k f m) R) : Wpl N (x.bind k) R := by
  cases x with
  | ok f m => exact hk f m h
  | bad p => exact h
  | out => exact trivial
theorem Wpl.need {N : Int} {c : Nat} {l : List Tok} {k : List Tok → PR} {R : F → List Tok → Prop} (hl : Rsp N l) (hc' : c ≠ 56) (h : Rsp N l.tail → ha l < ha l.tail → Wpl N (k l.tail) R) : Wpl N (need c l k) R := by
  unfold Go.Proofs.YtlgkfhipobdcfabGreatDoor.need
  split
  · next e =>
    obtain ⟨h1, h2⟩ := hl.tl (by rw [e]; exact hc')
    exact h h1 h2
  · exact hl.ha
theorem Wpl.nam {N q : Int} {l : List Tok} {k : F → List Tok → PR} {R : F → List Tok → Prop} (hl : Rsp N l) (hq : q ≠ 20) (h : ∀ f, Trp f (ha l) → Rsp N l.tail → ha l < ha l.tail → Wpl N (k f l.tail) R) : Wpl N (nam q l k) R := by
  unfold Go.Proofs.YtlgkfhipobdcfabGreatDoor.nam
  split
  · next e =>
    obtain ⟨h1, h2⟩ := hl.tl (by rw [e]; decide)
    exact h _ (.mk hq .nil rfl) h1 h2
  · exact hl.ha
theorem Wpl.tgt {N : Int} {f : F} {k : PR} {R : F → List Tok → Prop} {p : Int} (hT : Trp f p) (h0 : 0 ≤ p) (h1 : p ≤ N) (h : Wpl N k R) : Wpl N (tgt f k) R := by
  unfold Go.Proofs.YtlgkfhipobdcfabGreatDoor.tgt
  split
  · exact h
  · rw [hT.at]; exact ⟨h0, h1⟩

/-- What a job tells of places. -/
@[reducible] def Opl (j : J) (l : List Tok) (f : F) (m : List Tok) : Prop :=
  match j with
  | .blk _ => Trp f (ha l) ∧ ha l ≤ ha m
  | .bk _ a => (∀ q, q ≤ ha l → a.ord true q (q - 1) → a.lp (q - 1) < ha l → f.ord true q (q - 1)) ∧ ha l ≤ ha m
  | .lst a => (∀ q, q ≤ ha l → Rop a q → Rop f q) ∧ ha l ≤ ha m
  | .nms a => (∀ q, q ≤ ha l → Rop a q → Rop f q) ∧ ha l ≤ ha m
  | .ifs a => (∀ q, q ≤ ha l → Rop a q → Rop f q) ∧ ha l ≤ ha m
  | .asg a => (∀ q, q ≤ ha l → Rop a q → Rop f q) ∧ ha l ≤ ha m
  | .tab a => (∀ q, q ≤ ha l → Rop a q → Rop f q) ∧ ha l ≤ ha m
  | .exl _ g => (∀ q, q ≤ ha l → Trp g q → Trp f q) ∧ ha l ≤ ha m
  | .sufl g => (∀ q, q ≤ ha l → Trp g q → Trp f q) ∧ ha l ≤ ha m
  | _ => Trp f (ha l) ∧ ha l < ha m

section
variable {N : Int} {rec : J → List Tok → PR} (ih : ∀ j l, Rsp N l → Wpl N (rec j l) fun f m => Rsp N m ∧ Opl j l f m)
include ih
theorem or_body {l : List Tok} {k : F → List Tok → PR} {R : F → List Tok → Prop} (hl : Rsp N l) (h : ∀ f m, Rsp N m → ha l < ha m → Rop f (ha l) → Wpl N (k f m) R) : Wpl N (bodyP rec l k) R :=
  .need hl (by decide) fun R1 d1 => .bind (ih _ _ R1) fun f m ⟨R2, T, d2⟩ => .need R2 (by decide) fun R3 d3 => h f _ R3 (by omega) (T.ro (by omega))
theorem or_last {l : List Tok} (hl : Rsp N l) (h2 : hc l = 2) : Wpl N (lastP rec l) fun f m => Rsp N m ∧ Trp f (ha l) ∧ ha l < ha m := by
  obtain ⟨R1, d1⟩ := hl.tl (by rw [h2]; decide)
  unfold lastP
  split
  · next e =>
    obtain ⟨R2, d2⟩ := R1.tl (by rw [e]; decide)
    exact .ok ⟨R2, .mk (by decide) .nil rfl, by omega⟩
  · split
    · exact .ok ⟨R1, .mk (by decide) .nil rfl, d1⟩
    · refine .bind (ih _ _ R1) fun f m ⟨R2, T, d2⟩ => ?_
      have hT := T (ha l) (by omega) .nil
      split
      · next e =>
        obtain ⟨R3, d3⟩ := R2.tl (by rw [e]; decide)
        exact .ok ⟨R3, .mk (by decide) hT rfl, by omega⟩
      · exact .ok ⟨R2, .mk (by decide) hT rfl, by omega⟩
theorem or_fun {l : List Tok} (hl : Rsp N l) (h2 : hc l = 3) : Wpl N (funP rec l) fun f m => Rsp N m ∧ Trp f (ha l) ∧ ha l < ha m := by
  obtain ⟨R1, d1⟩ := hl.tl (by rw [h2]; decide)
  unfold funP parP
  refine .nam R1 (by decide) fun m T R2 d2 => .need R2 (by decide) fun R3 d3 => .bind (Q := fun ps m => Rsp N m ∧ Rop ps (ha l) ∧ ha l ≤ ha m) ?_ fun ps l1 ⟨R4, O4, d4⟩ => .need R4 (by decide) fun R5 d5 => .bind (ih _ _ R5) fun b l2 ⟨R6, T6, d6⟩ => .need R6 (by decide) fun R7 d7 => .ok ⟨R7, .mk (by decide) (O4.app (T6.ro (by omega))) rfl, by omega⟩
  split
  · exact .ok ⟨R3, .nil, by omega⟩
  · exact .nam R3 (by decide) fun f T4 R4 d4 => .mono (ih _ _ R4) fun ps m ⟨R5, h5, d5⟩ => ⟨R5, h5 _ (by omega) (T4.ro (by omega)), by omega⟩
theorem or_br {a : F} {l : List Tok} (hl : Rsp N l) : Wpl N (brP rec a l) fun f m => Rsp N m ∧ (∀ q, q ≤ ha l → Rop a q → Rop f q) ∧ ha l ≤ ha m := by
  unfold brP
  exact .bind (ih _ _ hl) fun e l1 ⟨R1, T1, d1⟩ => .need R1 (by decide) fun R2 d2 => .bind (ih _ _ R2) fun b l2 ⟨R3, T3, d3⟩ => .ok ⟨R3, fun q hq ha' => (ha'.app (T1.ro (by omega))).app (T3.ro (by omega)), by omega⟩
theorem or_num {p : Int} {a : F} {l : List Tok} (hl : Rsp N l) (hp : p ≤ ha l) (hA : Rop a p) : Wpl N (numP rec p a l) fun f m => Rsp N m ∧ Trp f p ∧ p < ha m := by
  unfold numP
  refine .bind (ih _ _ hl) fun e1 l1 ⟨R1, T1, d1⟩ => .need R1 (by decide) fun R2 d2 => .bind (ih _ _ R2) fun e2 l2 ⟨R3, T3, d3⟩ => ?_
  have h2 := (hA.app (T1.ro (by omega))).app (T3.ro (q := p) (by omega))
  split
  · next e =>
    obtain ⟨R4, d4⟩ := R3.tl (by rw [e]; decide)
    exact .bind (ih _ _ R4) fun e3 l3 ⟨R5, T5, d5⟩ => or_body ih R5 fun b l4 R6 d6 T6 => .ok ⟨R6, .mk (by decide) ((h2.app (T5.ro (by omega))).app (T6.mono (by omega))) rfl, by omega⟩
  · exact or_body ih R3 fun b l4 R6 d6 T6 => .ok ⟨R6, .mk (by decide) (h2.app (T6.mono (by omega))) rfl, by omega⟩
theorem or_for {l : List Tok} (hl : Rsp N l) (h2 : hc l = 10) : Wpl N (forP rec l) fun f m => Rsp N m ∧ Trp f (ha l) ∧ ha l < ha m := by
  obtain ⟨R1, d1⟩ := hl.tl (by rw [h2]; decide)
  unfold forP
  refine .nam R1 (by decide) fun m T R2 d2 => ?_
  split
  · next e =>
    obtain ⟨R3, d3⟩ := R2.tl (by rw [e]; decide)
    exact or_num ih R3 (by omega) (T.ro (by omega))
  · exact .bind (ih _ _ R2) fun ns l1 ⟨R3, T3, d3⟩ => .need R3 (by decide) fun R4 d4 => .bind (ih _ _ R4) fun f l2 ⟨R5, T5, d5⟩ => or_body ih R5 fun b l3 R6 d6 T6 => .ok ⟨R6, .mk (by decide) ((T5 _ (by omega) (T3 _ (by omega) (T.ro (by omega)))).app (T6.mono (by omega))) rfl, by omega⟩
theorem or_loc {l : List Tok} (hl : Rsp N l) (h2 : hc l = 11) : Wpl N (locP rec l) fun f m => Rsp N m ∧ Trp f (ha l) ∧ ha l < ha m := by
  obtain ⟨R1, d1⟩ := hl.tl (by rw [h2]; decide)
  unfold locP
  refine .nam R1 (by decide) fun m T R2 d2 => .bind (ih _ _ R2) fun ns l1 ⟨R3, T3, d3⟩ => ?_
  have hn := T3 (ha l) (by omega) (T.ro (by omega))
  split
  · next e =>
    obtain ⟨R4, d4⟩ := R3.tl (by rw [e]; decide)
    exact .bind (ih _ _ R4) fun f l2 ⟨R5, T5, d5⟩ => .ok ⟨R5, .mk (by decide) (T5 _ (by omega) hn) rfl, by omega⟩
  · exact .ok ⟨R3, .mk (by decide) hn rfl, by omega⟩
theorem or_asg {l : List Tok} (hl : Rsp N l) : Wpl N (asgP rec l) fun f m => Rsp N m ∧ Trp f (ha l) ∧ ha l < ha m := by
  unfold asgP
  refine .bind (ih _ _ hl) fun f l1 ⟨R1, T1, d1⟩ => ?_
  split
  · exact .tgt T1 hl.ha.1 hl.ha.2 (.bind (ih _ _ R1) fun ts l2 ⟨R2, T2, d2⟩ => .need R2 (by decide) fun R3 d3 => .bind (ih _ _ R3) fun g l3 ⟨R4, T4, d4⟩ => .ok ⟨R4, .mk (by decide) (T4 _ (by omega) (T2 _ (by omega) (T1.ro (by omega)))) T1.at, by omega⟩)
  · split
    · exact .ok ⟨R1, .mk (by decide) (T1.ro (by omega)) T1.at, d1⟩
    · exact R1.ha
theorem or_arg {a : F} {l : List Tok} (hl : Rsp N l) : Wpl N (argP rec a l) fun f m => Rsp N m ∧ (∀ q, q ≤ ha l → Rop a q → Rop f q) ∧ ha l ≤ ha m := by
  unfold argP
  split
  · next e =>
    obtain ⟨R1, d1⟩ := hl.tl (by rw [e]; decide)
    exact .ok ⟨R1, fun _ _ h => h, by omega⟩
  · exact .bind (ih _ _ hl) fun f l1 ⟨R1, T1, d1⟩ => .need R1 (by decide) fun R2 d2 => .ok ⟨R2, T1, by omega⟩
theorem or_stem {l : List Tok} (hl : Rsp N l) : Wpl N (stemP rec l) fun f m => Rsp N m ∧ Trp f (ha l) ∧ ha l < ha m := by
  unfold stemP
  split
  · next e =>
    obtain ⟨R1, d1⟩ := hl.tl (by rw [e]; decide)
    exact .bind (ih _ _ R1) fun f l1 ⟨R2, T2, d2⟩ => .need R2 (by decide) fun R3 d3 => .ok ⟨R3, .mk (by decide) (T2.ro (by omega)) rfl, by omega⟩
  · exact .nam hl (by decide) fun f T R1 d1 => .ok ⟨R1, T, d1⟩
theorem or_step (j : J) (l : List Tok) (hl : Rsp N l) : Wpl N (stp' rec j l) fun f m => Rsp N m ∧ Opl j l f m := by
  cases j with
  | blk c =>
    exact .bind (ih _ _ hl) fun f m ⟨R1, T1, d1⟩ => .ok ⟨R1, ⟨_, _, _, _, rfl, T1 _ (by omega) trivial (by show ha l - 1 < ha l; omega)⟩, d1⟩
  | bk c a =>
    simp only [stp']
    split
    · next e =>
      obtain ⟨R1, d1⟩ := hl.tl (by rw [e]; decide)
      exact .mono (ih _ _ R1) fun f m ⟨R2, T2, d2⟩ => ⟨R2, fun q h1 h2 h3 => T2 q (by omega) h2 (by omega), by omega⟩
    · split
      · next e =>
        exact .bind (or_last ih hl e) fun f m ⟨R2, T2, d2⟩ => .ok ⟨R2, fun q h1 h2 h3 => (F.ord_app _ _ _ _ _).2 ⟨h2, T2.ordT h1 h3⟩, by omega⟩
      · split
        · next e =>
          exact .bind (or_fun ih hl e.2) fun f m ⟨R2, T2, d2⟩ => .mono (ih _ _ R2) fun g m2 ⟨R3, T3, d3⟩ => ⟨R3, fun q h1 h2 h3 => T3 q (by omega) ((F.ord_app _ _ _ _ _).2 ⟨h2, T2.ordT h1 h3⟩) (by rw [F.lp_app, T2.lp]; exact d2), by omega⟩
        · split
          · exact .ok ⟨hl, fun q h1 h2 h3 => h2, by omega⟩
          · exact .bind (ih _ _ hl) fun f m ⟨R2, T2, d2⟩ => .mono (ih _ _ R2) fun g m2 ⟨R3, T3, d3⟩ => ⟨R3, fun q h1 h2 h3 => T3 q (by omega) ((F.ord_app _ _ _ _ _).2 ⟨h2, T2.ordT h1 h3⟩) (by rw [F.lp_app, T2.lp]; exact d2), by omega⟩
  | stat =>
    simp only [stp']
    split
    · exact or_body ih hl fun b m R1 d1 T1 => .ok ⟨R1, .mk (by decide) T1 rfl, d1⟩
    · split
      · next e =>
        obtain ⟨R1, d1⟩ := hl.tl (by rw [e]; decide)
        unfold whileP
        exact .bind (ih _ _ R1) fun f m ⟨R2, T2, d2⟩ => or_body ih R2 fun b m2 R3 d3 T3 => .ok ⟨R3, .mk (by decide) ((T2.ro (by omega)).app (T3.mono (by omega))) rfl, by omega⟩
      · split
        · next e =>
          obtain ⟨R1, d1⟩ := hl.tl (by rw [e]; decide)
          unfold ifP
          exact .bind (ih _ _ R1) fun f m ⟨R2, T2, d2⟩ => .ok ⟨R2, .mk (by decide) (T2 _ (by omega) .nil) rfl, by omega⟩
        · split
          · next e => exact or_for ih hl e
          · split
            · next e => exact or_loc ih hl e
            · split
              · next e =>
                obtain ⟨R1, d1⟩ := hl.tl (by rw [e]; decide)
                exact .ok ⟨R1, .mk (by decide) .nil rfl, d1⟩
              · exact or_asg ih hl
  | lst a =>
    refine .bind (ih _ _ hl) fun f m ⟨R1, T1, d1⟩ => ?_
    split
    · next e =>
      obtain ⟨R2, d2⟩ := R1.tl (by rw [e]; decide)
      exact .mono (ih _ _ R2) fun g m2 ⟨R3, T3, d3⟩ => ⟨R3, fun q h1 h2 => T3 q (by omega) (h2.app (T1.ro h1)), by omega⟩
    · exact .ok ⟨R1, fun q h1 h2 => h2.app (T1.ro h1), by omega⟩
  | nms a =>
    simp only [stp']
    split
    · next e =>
      obtain ⟨R2, d2⟩ := hl.tl (by rw [e]; decide)
      exact .nam R2 (by decide) fun f T R3 d3 => .mono (ih _ _ R3) fun g m2 ⟨R4, T4, d4⟩ => ⟨R4, fun q h1 h2 => T4 q (by omega) (h2.app (T.ro (by omega))), by omega⟩
    · exact .ok ⟨hl, fun q h1 h2 => h2, by omega⟩
  | ifs a =>
    refine .bind (or_br ih hl) fun f m ⟨R1, T1, d1⟩ => ?_
    split
    · next e =>
      obtain ⟨R2, d2⟩ := R1.tl (by rw [e]; decide)
      exact .mono (ih _ _ R2) fun g m2 ⟨R3, T3, d3⟩ => ⟨R3, fun q h1 h2 => T3 q (by omega) (T1 q h1 h2), by omega⟩
    · split
      · next e =>
        obtain ⟨R2, d2⟩ := R1.tl (by rw [e]; decide)
        exact .bind (ih _ _ R2) fun g m2 ⟨R3, T3, d3⟩ => .need R3 (by decide) fun R4 d4 => .ok ⟨R4, fun q h1 h2 => (T1 q h1 h2).app (T3.ro (by omega)), by omega⟩
      · exact .need R1 (by decide) fun R4 d4 => .ok ⟨R4, T1, by omega⟩
  | asg a =>
    simp only [stp']
    split
    · next e =>
      obtain ⟨R2, d2⟩ := hl.tl (by rw [e]; decide)
      exact .bind (ih _ _ R2) fun f m ⟨R3, T3, d3⟩ => .tgt T3 R2.ha.1 R2.ha.2 (.mono (ih _ _ R3) fun g m2 ⟨R4, T4, d4⟩ => ⟨R4, fun q h1 h2 => T4 q (by omega) (h2.app (T3.ro (by omega))), by omega⟩)
    · exact .ok ⟨hl, fun q h1 h2 => h2, by omega⟩
  | ex a =>
    exact .bind (ih _ _ hl) fun f m ⟨R1, T1, d1⟩ => .mono (ih _ _ R1) fun g m2 ⟨R2, T2, d2⟩ => ⟨R2, T2 _ (by omega) T1, by omega⟩
  | exl a g =>
    simp only [stp']
    split
    · next e =>
      obtain ⟨R2, d2⟩ := hl.tl (by intro e2; rw [e2] at e; exact absurd e (Nat.not_lt_zero a))
      exact .bind (ih _ _ R2) fun f m ⟨R3, T3, d3⟩ => .mono (ih _ _ R3) fun g2 m2 ⟨R4, T4, d4⟩ => ⟨R4, fun q h1 h2 => T4 q (by omega) (.mk (by decide) ((h2.ro (by omega)).app (T3.ro (by omega))) h2.at), by omega⟩
    · exact .ok ⟨hl, fun q h1 h2 => h2, by omega⟩
  | opd =>
    simp only [stp']
    split
    · exact ih .suf l hl
    · split
      · next e =>
        obtain ⟨R1, d1⟩ := hl.tl (by rw [e]; decide)
        unfold tabP
        exact .bind (ih _ _ R1) fun f m ⟨R2, T2, d2⟩ => .need R2 (by decide) fun R3 d3 => .ok ⟨R3, .mk (by decide) (T2 _ (by omega) .nil) rfl, by omega⟩
      · split
        · next e =>
          obtain ⟨R1, d1⟩ := hl.tl (by omega)
          exact .bind (ih _ _ R1) fun f m ⟨R2, T2, d2⟩ => .ok ⟨R2, .mk (by decide) (T2.ro (by omega)) rfl, by omega⟩
        · split
          · next e =>
            obtain ⟨R1, d1⟩ := hl.tl (by rw [e]; decide)
            exact .ok ⟨R1, .mk (by decide) .nil rfl, d1⟩
          · split
            · next e =>
              obtain ⟨R1, d1⟩ := hl.tl (by rw [e]; decide)
              exact .ok ⟨R1, .mk (by decide) .nil rfl, d1⟩
            · split
              · next e =>
                obtain ⟨R1, d1⟩ := hl.tl (by rw [e]; decide)
                exact .ok ⟨R1, .mk (by decide) .nil rfl, d1⟩
              · split
                · next e =>
                  obtain ⟨R1, d1⟩ := hl.tl (by rw [e]; decide)
                  exact .ok ⟨R1, .mk (by decide) .nil rfl, d1⟩
                · split
                  · next e =>
                    obtain ⟨R1, d1⟩ := hl.tl (by rw [e]; decide)
                    exact .ok ⟨R1, .mk (by decide) .nil rfl, d1⟩
                  · exact hl.ha
  | suf =>
    exact .bind (or_stem ih hl) fun f m ⟨R1, T1, d1⟩ => .mono (ih _ _ R1) fun g m2 ⟨R2, T2, d2⟩ => ⟨R2, T2 _ (by omega) T1, by omega⟩
  | sufl f =>
    simp only [stp']
    split
    · next e =>
      obtain ⟨R2, d2⟩ := hl.tl (by rw [e]; decide)
      exact .bind (ih _ _ R2) fun k m ⟨R3, T3, d3⟩ => .need R3 (by decide) fun R4 d4 => .mono (ih _ _ R4) fun g2 m2 ⟨R5, T5, d5⟩ => ⟨R5, fun q h1 h2 => T5 q (by omega) (.mk (by decide) ((h2.ro (by omega)).app (T3.ro (by omega))) h2.at), by omega⟩
    · split
      · next e =>
        obtain ⟨R2, d2⟩ := hl.tl (by rw [e]; decide)
        exact .nam R2 (by decide) fun k T3 R3 d3 => .mono (ih _ _ R3) fun g2 m2 ⟨R5, T5, d5⟩ => ⟨R5, fun q h1 h2 => T5 q (by omega) (.mk (by decide) ((h2.ro (by omega)).app (T3.ro (by omega))) h2.at), by omega⟩
      · split
        · next e =>
          obtain ⟨R2, d2⟩ := hl.tl (by rw [e]; decide)
          exact .bind (or_arg ih R2) fun k m ⟨R3, T3, d3⟩ => .mono (ih _ _ R3) fun g2 m2 ⟨R5, T5, d5⟩ => ⟨R5, fun q h1 h2 => T5 q (by omega) (.mk (by decide) (T3 _ (by omega) (h2.ro (by omega))) h2.at), by omega⟩
        · exact .ok ⟨hl, fun q h1 h2 => h2, by omega⟩
  | tab a =>
    simp only [stp']
    split
    · exact .ok ⟨hl, fun q h1 h2 => h2, by omega⟩
    · refine .bind (ih _ _ hl) fun f m ⟨R1, T1, d1⟩ => ?_
      split
      · next e =>
        obtain ⟨R2, d2⟩ := R1.tl (by omega)
        exact .mono (ih _ _ R2) fun g m2 ⟨R3, T3, d3⟩ => ⟨R3, fun q h1 h2 => T3 q (by omega) (h2.app (T1.ro h1)), by omega⟩
      · exact .ok ⟨R1, fun q h1 h2 => h2.app (T1.ro h1), by omega⟩
  | fld =>
    simp only [stp']
    split
    · next e =>
      obtain ⟨R1, d1⟩ := hl.tl (by rw [e]; decide)
      exact .bind (ih _ _ R1) fun k m ⟨R2, T2, d2⟩ => .need R2 (by decide) fun R3 d3 => .need R3 (by decide) fun R4 d4 => .bind (ih _ _ R4) fun v m2 ⟨R5, T5, d5⟩ => .ok ⟨R5, .mk (by decide) ((T2.ro (by omega)).app (T5.ro (by omega))) rfl, by omega⟩
    · split
      · next e =>
        obtain ⟨R1, d1⟩ := hl.tl (by rw [e.1]; decide)
        obtain ⟨R2, d2⟩ := R1.tl (by rw [e.2]; decide)
        exact .bind (ih _ _ R2) fun v m ⟨R3, T3, d3⟩ => .ok ⟨R3, .mk (by decide) ((Trp.ro (p := ha l) (.mk (by decide) .nil rfl) (by omega)).app (T3.ro (by omega))) rfl, by omega⟩
      · exact .bind (ih _ _ hl) fun v m ⟨R3, T3, d3⟩ => .ok ⟨R3, .mk (by decide) (T3.ro (by omega)) rfl, by omega⟩
end
/-- Every going through tells trees with their places in order; a refusal's place lies in the text. -/
theorem or_all {N : Int} : ∀ (n : Nat) (j : J) (l : List Tok), Rsp N l → Wpl N (pr n j l) fun f m => Rsp N m ∧ Opl j l f m
  | 0, _, _, _ => trivial
  | n + 1, j, l, h => or_step (or_all n) j l h

end Go.Proofs.YtlgkfhipobdcfabGreatDoor

/- The walks of the parser's small functions: reads, is, at, accept, take, expect, closes, name, binding. -/
namespace Go.Proofs.YtlgkfhipobdcfabGreatDoor
open Go.RowKit
set_option maxRecDepth 20000

set_option maxHeartbeats 1000000 in
theorem at_any (b m : Nat) (T l : List Tok) (t : Tok) (W : World) (h : PS b m T (t :: l) W) : Calls Tryz.prog 21 #[.pointer (some ⟨b, 0, none⟩)] W fun e w' => e = .returned (.int .i64 t.p) ∧ Below W.heap.size W w' := by
  go_enter Tryz.func21, Tryz.ntmps21
  go_wp2_with (go_at_call 19; refine (token_any b m T l t _ h).mono ?_; rintro e w1 ⟨rfl, hb⟩)
  go_ret
  exact ⟨rfl, hb⟩

theorem ba_eq (a w : List UInt8) : ((⟨a.toArray⟩ : ByteArray) = ⟨w.toArray⟩) ↔ a = w := by
  constructor
  · intro h; injection h with h; injection h
  · rintro rfl; rfl

set_option maxHeartbeats 1000000 in
theorem reads_any (t : Tok) (w : List UInt8) (W : World) : Calls Tryz.prog 52 #[(.agg #[.int .i64 t.k, .string ⟨t.t.toArray⟩, .int .i64 t.v, .int .i64 t.p]), .string ⟨w.toArray⟩] W fun e w' => e = .returned (.bool (rd t w)) ∧ Below W.heap.size W w' := by
  unfold rd
  by_cases hk2 : t.k = 2
  · by_cases ht : t.t = w
    · have e1 : ((t.k == 2 || t.k == 5) && t.t == w) = true := by simp [hk2, ht]
      rw [e1]
      go_enter Tryz.func52, Tryz.ntmps52
      go_wp2
      go_ret
      exact ⟨rfl, (Below.refl _ _).alloc (Nat.le_refl _) _⟩
    · have e1 : ((t.k == 2 || t.k == 5) && t.t == w) = false := by simp [ht]
      rw [e1]
      have ht' : ¬ ((⟨t.t.toArray⟩ : ByteArray) = ⟨w.toArray⟩) := fun e => ht ((ba_eq _ _).1 e)
      go_enter Tryz.func52, Tryz.ntmps52
      go_wp2
      go_ret
      exact ⟨by simp [ht], (Below.refl _ _).alloc (Nat.le_refl _) _⟩
  · by_cases hk5 : t.k = 5
    · by_cases ht : t.t = w
      · have e1 : ((t.k == 2 || t.k == 5) && t.t == w) = true := by simp [hk5, ht]
        rw [e1]
        go_enter Tryz.func52, Tryz.ntmps52
        go_wp2
        go_ret
        exact ⟨rfl, (Below.refl _ _).alloc (Nat.le_refl _) _⟩
      · have e1 : ((t.k == 2 || t.k == 5) && t.t == w) = false := by simp [ht]
        rw [e1]
        have ht' : ¬ ((⟨t.t.toArray⟩ : ByteArray) = ⟨w.toArray⟩) := fun e => ht ((ba_eq _ _).1 e)
        go_enter Tryz.func52, Tryz.ntmps52
        go_wp2
        go_ret
        exact ⟨by simp [ht], (Below.refl _ _).alloc (Nat.le_refl _) _⟩
    · have e1 : ((t.k == 2 || t.k == 5) && t.t == w) = false := by simp [hk2, hk5]
      rw [e1]
      go_enter Tryz.func52, Tryz.ntmps52
      go_wp2
      go_ret
      exact ⟨rfl, (Below.refl _ _).alloc (Nat.le_refl _) _⟩

set_option maxHeartbeats 1000000 in
theorem is_any (b m : Nat) (T l : List Tok) (t : Tok) (w : List UInt8) (W : World) (h : PS b m T (t :: l) W) : Calls Tryz.prog 30 #[.pointer (some ⟨b, 0, none⟩), .string ⟨w.toArray⟩] W fun e w' => e = .returned (.bool (rd t w)) ∧ Below W.heap.size W w' := by
  go_enter Tryz.func30, Tryz.ntmps30
  go_wp2_with (first | (go_at_call 19; refine (token_any b m T l t _ h).mono ?_; rintro e w1 ⟨rfl, hb⟩) | (go_at_call 52; refine (reads_any t w _).mono ?_; rintro e w2 ⟨rfl, hb2⟩))
  go_ret
  exact ⟨rfl, hb.trans (hb2.mono hb.size)⟩
theorem is_cls (b m : Nat) (T l : List Tok) (t : Tok) (W : World) (h : PS b m T (t :: l) W) (c : Nat) (h1 : 1 ≤ c) (h2 : c ≤ 42) : Calls Tryz.prog 30 #[.pointer (some ⟨b, 0, none⟩), .string ⟨(wds c).toArray⟩] W fun e w' => e = .returned (.bool (decide (cls t = c))) ∧ Below W.heap.size W w' := by
  rw [← rd_cls t c h1 h2]
  exact is_any b m T l t (wds c) W h

theorem PS.below {b m : Nat} {T l : List Tok} {W W' : World} (h : PS b m T l W) (hb : Below W.heap.size W W') : PS b m T l W' := h.ky (S := fun _ => False) (.of_below hb) (fun _ _ => id)
theorem PS.frozenA {b m : Nat} {T l : List Tok} {W : World} (h : PS b m T l W) (o : Obj) : (W.alloc o).frozen? ⟨b, 1, none⟩ = false := alloc_frozen (by have := h.lt; omega) h.fz o

theorem cls_rd {t : Tok} {c : Nat} (h : cls t = c) (h1 : 1 ≤ c) (h2 : c ≤ 42) : rd t (wds c) = true := by rw [rd_cls t c h1 h2, h]; simp
theorem cls_nrd {t : Tok} {c : Nat} (h : cls t ≠ c) (h1 : 1 ≤ c) (h2 : c ≤ 42) : rd t (wds c) = false := by rw [rd_cls t c h1 h2]; simpa using h

set_option maxHeartbeats 1000000 in
theorem accept_yes (b m : Nat) (T l : List Tok) (t : Tok) (W : World) (h : PS b m T (t :: l) W) (c : Nat) (hc : cls t = c) (h1 : 1 ≤ c) (h2 : c ≤ 42) : Calls Tryz.prog 29 #[.pointer (some ⟨b, 0, none⟩), .string ⟨(wds c).toArray⟩] W fun e w' => e = .returned (.bool true) ∧ Tk b m T l W w' := by
  have C := is_any b m T l t (wds c) W h
  rw [cls_rd hc h1 h2] at C
  obtain ⟨ws, hws⟩ : ∃ ws, wds c = ws := ⟨_, rfl⟩
  rw [hws] at C ⊢
  clear hws
  go_enter Tryz.func29, Tryz.ntmps29
  go_wp2_with (go_at_call 30; refine C.mono ?_; rintro e w1 ⟨rfl, hb⟩; have hp1 := h.below hb; obtain ⟨g, cap, i, r1, r2, r3, r4, -⟩ := hp1.reads; have r5 := hp1.fz; have hn := hp1.next (by omega) r2)
  go_ret
  exact ⟨rfl, hn, (Ky.of_below hb).setP _⟩

set_option maxHeartbeats 1000000 in
theorem accept_no (b m : Nat) (T l : List Tok) (t : Tok) (W : World) (h : PS b m T (t :: l) W) (c : Nat) (hc : cls t ≠ c) (h1 : 1 ≤ c) (h2 : c ≤ 42) : Calls Tryz.prog 29 #[.pointer (some ⟨b, 0, none⟩), .string ⟨(wds c).toArray⟩] W fun e w' => e = .returned (.bool false) ∧ Below W.heap.size W w' := by
  have C := is_any b m T l t (wds c) W h
  rw [cls_nrd hc h1 h2] at C
  obtain ⟨ws, hws⟩ : ∃ ws, wds c = ws := ⟨_, rfl⟩
  rw [hws] at C ⊢
  clear hws
  go_enter Tryz.func29, Tryz.ntmps29
  go_wp2_with (go_at_call 30; refine C.mono ?_; rintro e w1 ⟨rfl, hb⟩)
  go_ret
  exact ⟨rfl, hb⟩

theorem refuse_p (a : Int) (w : World) : Calls Tryz.prog 20 #[.int .i64 a] w fun e w' => e = refp a ∧ Below w.heap.size w w' := by
  go_enter Tryz.func20, Tryz.ntmps20
  go_wp2
  exact ⟨rfl, rfl, Below.refl _ _⟩

set_option maxHeartbeats 1000000 in
theorem take_p (b m : Nat) (T l : List Tok) (t : Tok) (W : World) (h : PS b m T (t :: l) W) (hc : cls t ≠ 56) : Calls Tryz.prog 53 #[.pointer (some ⟨b, 0, none⟩)] W fun e w' => e = .returned (.agg #[.int .i64 t.k, .string ⟨t.t.toArray⟩, .int .i64 t.v, .int .i64 t.p]) ∧ Tk b m T l W w' := by
  have hlt := h.lt
  have hbW : W.heap.size ≠ b := by omega
  go_enter Tryz.func53, Tryz.ntmps53
  go_wp2_with (go_at_call 19; refine (token_any b m T l t _ (h.alloc _)).mono ?_; rintro e w1 ⟨rfl, hb⟩; have hp1 := ((h.alloc _).below hb).alloc (.cells #[.int .i64 t.k, .string ⟨t.t.toArray⟩, .int .i64 t.v, .int .i64 t.p] 56); obtain ⟨g, cap, i, r1, r2, r3, r4, -⟩ := hp1.reads; have r5 := hp1.fz; have hn := hp1.next hc r2; have R0 := (((Bx.new W 56 _).below hb).alloc (.cells #[.int .i64 t.k, .string ⟨t.t.toArray⟩, .int .i64 t.v, .int .i64 t.p] 56)).set (o := 1) hbW (.int .i64 ((i : Int) + 1)); have L0 := (Bx.new w1 56 #[.int .i64 t.k, .string ⟨t.t.toArray⟩, .int .i64 t.v, .int .i64 t.p]).set (b := b) (o := 1) (by have := hb.size; simp at this; omega) (.int .i64 ((i : Int) + 1)); have K0 : Ky (fun k => k = b) W ((w1.alloc (.cells #[.int .i64 t.k, .string ⟨t.t.toArray⟩, .int .i64 t.v, .int .i64 t.p] 56)).setCell ⟨b, 1, none⟩ (.int .i64 ((i : Int) + 1))) := ((((Ky.refl _ W).alloc _).trans (Ky.of_below hb)).alloc _).setP _; obtain ⟨w2, hw2⟩ : ∃ w2, (w1.alloc (.cells #[.int .i64 t.k, .string ⟨t.t.toArray⟩, .int .i64 t.v, .int .i64 t.p] 56)).setCell ⟨b, 1, none⟩ (.int .i64 ((i : Int) + 1)) = w2 := ⟨_, rfl⟩; rw [hw2] at hn R0 L0 K0; obtain ⟨l0, l1, l2, l3⟩ := L0.four; obtain ⟨q0, q1, q2, q3⟩ := R0.four; have f0 := R0.f 0; have f1 := R0.f 1; have f2 := R0.f 2; have f3 := R0.f 3)
  refine bodyPost_ret (v := (.agg #[.int .i64 t.k, .string ⟨t.t.toArray⟩, .int .i64 t.v, .int .i64 t.p])) (by simp [results, Tryz.results53, go_sem, q0, q1, q2, q3]) rfl ?_
  exact ⟨rfl, ((((Tk.mk hn K0).new (Nat.le_refl _) hlt.2 _).new (Nat.le_refl _) hlt.2 _).new (Nat.le_refl _) hlt.2 _).new (Nat.le_refl _) hlt.2 _⟩

set_option maxHeartbeats 1000000 in
theorem expect_yes (b m : Nat) (T l : List Tok) (t : Tok) (W : World) (h : PS b m T (t :: l) W) (c : Nat) (hc : cls t = c) (h1 : 1 ≤ c) (h2 : c ≤ 42) : Calls Tryz.prog 56 #[.pointer (some ⟨b, 0, none⟩), .string ⟨(wds c).toArray⟩] W fun e w' => e = .returned (.tuple #[]) ∧ Tk b m T l W w' := by
  have C := accept_yes b m T l t W h c hc h1 h2
  obtain ⟨ws, hws⟩ : ∃ ws, wds c = ws := ⟨_, rfl⟩
  rw [hws] at C ⊢
  clear hws
  go_enter Tryz.func56, Tryz.ntmps56
  go_wp2_with (go_at_call 29; refine C.mono ?_; rintro e w1 ⟨rfl, hT⟩)
  go_end0
  exact ⟨rfl, hT⟩

set_option maxHeartbeats 1000000 in
theorem expect_no (b m : Nat) (T l : List Tok) (t : Tok) (W : World) (h : PS b m T (t :: l) W) (c : Nat) (hc : cls t ≠ c) (h1 : 1 ≤ c) (h2 : c ≤ 42) : Calls Tryz.prog 56 #[.pointer (some ⟨b, 0, none⟩), .string ⟨(wds c).toArray⟩] W fun e w' => e = refp t.p ∧ Below W.heap.size W w' := by
  have C := accept_no b m T l t W h c hc h1 h2
  obtain ⟨ws, hws⟩ : ∃ ws, wds c = ws := ⟨_, rfl⟩
  rw [hws] at C ⊢
  clear hws
  go_enter Tryz.func56, Tryz.ntmps56
  go_wp2_with (first | (go_at_call 29; refine C.mono ?_; rintro e w1 ⟨rfl, hb⟩) | (go_at_call 21; refine (at_any b m T l t _ (h.below hb)).mono ?_; rintro e w2 ⟨rfl, hb2⟩) | (go_at_call 20; refine (refuse_p _ _).mono ?_; rintro e w3 ⟨he, hb3⟩; unfold refp at he; subst he))
  exact ⟨rfl, rfl, (hb.trans (hb2.mono hb.size)).trans (hb3.mono (Nat.le_trans hb.size hb2.size))⟩

set_option maxHeartbeats 1000000 in
theorem name_yes (b m : Nat) (T l : List Tok) (t : Tok) (W : World) (h : PS b m T (t :: l) W) (hc : cls t = 51) : Calls Tryz.prog 55 #[.pointer (some ⟨b, 0, none⟩)] W fun e w' => e = .returned (.agg #[.int .i64 (6), .string ⟨(t.t).toArray⟩, .int .i64 (0), .int .i64 (t.p), .slice none 0 0]) ∧ Tk b m T l W w' := by
  have hk : t.k = 1 := cls_kind t 51 hc (by omega)
  have hlt := h.lt
  have hbW : W.heap.size ≠ b := by omega
  go_enter Tryz.func55, Tryz.ntmps55
  go_wp2_with (first | (go_at_call 19; refine (token_any b m T l t _ (h.alloc _)).mono ?_; rintro e w1 ⟨rfl, hb⟩; have h1 := (h.alloc _).below hb; have R1 := (Bx.new W 25 _).below hb; have K1 := ((Ky.refl (fun k => k = b) W).alloc _).trans (Ky.of_below hb)) | (go_at_call 53; refine (take_p b m T l t _ h1 (by omega)).mono ?_; rintro e w2 ⟨rfl, hT⟩; have R2 := R1.ky hT.ky hbW; obtain ⟨q0, q1, q2, q3, q4⟩ := R2.fiveA; obtain ⟨f0, f1, f2, f3, f4⟩ := R2.frozen5A))
  refine bodyPost_ret (v := (.agg #[.int .i64 (6), .string ⟨(t.t).toArray⟩, .int .i64 (0), .int .i64 (t.p), .slice none 0 0])) (by simp [results, Tryz.results55, go_sem, q0, q1, q2, q3, q4]) rfl ?_
  exact ⟨rfl, ((Tk.mk hT.ps (K1.trans hT.ky)).alloc _).five (Nat.le_refl _) hlt.2 _ _ _ _ _⟩

set_option maxHeartbeats 1000000 in
theorem name_no (b m : Nat) (T l : List Tok) (t : Tok) (W : World) (h : PS b m T (t :: l) W) (hc : cls t ≠ 51) : Calls Tryz.prog 55 #[.pointer (some ⟨b, 0, none⟩)] W fun e w' => e = refp t.p ∧ Below W.heap.size W w' := by
  have hk : ¬ t.k = 1 := fun e => hc (cls_of_kind t 1 e (by simp))
  go_enter Tryz.func55, Tryz.ntmps55
  go_wp2_with (first | (go_at_call 19; refine (token_any b m T l t _ (h.alloc _)).mono ?_; rintro e w1 ⟨rfl, hb⟩; have h1 := (h.alloc _).below hb; have B1 := ((Below.refl _ W).alloc (Nat.le_refl _) _).trans (hb.mono (by simp))) | (go_at_call 21; refine (at_any b m T l t _ h1).mono ?_; rintro e w2 ⟨rfl, hb2⟩) | (go_at_call 20; refine (refuse_p _ _).mono ?_; rintro e w3 ⟨he, hb3⟩; unfold refp at he; subst he))
  exact ⟨rfl, rfl, (B1.trans (hb2.mono B1.size)).trans (hb3.mono (Nat.le_trans B1.size hb2.size))⟩

set_option maxHeartbeats 1000000 in
theorem nameText_yes (b m : Nat) (T l : List Tok) (t : Tok) (W : World) (h : PS b m T (t :: l) W) (hc : cls t = 51) : Calls Tryz.prog 93 #[.pointer (some ⟨b, 0, none⟩)] W fun e w' => e = .returned (.agg #[.int .i64 (5), .string ⟨(t.t).toArray⟩, .int .i64 (0), .int .i64 (t.p), .slice none 0 0]) ∧ Tk b m T l W w' := by
  have hlt := h.lt
  have hbW : W.heap.size ≠ b := by omega
  go_enter Tryz.func93, Tryz.ntmps93
  go_wp2_with (go_at_call 55; refine (name_yes b m T l t _ (h.alloc _) hc).mono ?_; rintro e w2 ⟨rfl, hT⟩; have R2 := (Bx.new W 25 _).ky hT.ky hbW; obtain ⟨q0, q1, q2, q3, q4⟩ := R2.fiveA; obtain ⟨f0, f1, f2, f3, f4⟩ := R2.frozen5A)
  refine bodyPost_ret (v := (.agg #[.int .i64 (5), .string ⟨(t.t).toArray⟩, .int .i64 (0), .int .i64 (t.p), .slice none 0 0])) (by simp [results, Tryz.results93, go_sem, q0, q1, q2, q3, q4]) rfl ?_
  exact ⟨rfl, ((Tk.mk hT.ps (((Ky.refl (fun k => k = b) W).alloc _).trans hT.ky)).alloc _).five (Nat.le_refl _) hlt.2 _ _ _ _ _⟩

set_option maxHeartbeats 1000000 in
theorem nameText_no (b m : Nat) (T l : List Tok) (t : Tok) (W : World) (h : PS b m T (t :: l) W) (hc : cls t ≠ 51) : Calls Tryz.prog 93 #[.pointer (some ⟨b, 0, none⟩)] W fun e w' => e = refp t.p ∧ Below W.heap.size W w' := by
  go_enter Tryz.func93, Tryz.ntmps93
  go_wp2_with (go_at_call 55; refine (name_no b m T l t _ (h.alloc _) hc).mono ?_; rintro e w2 ⟨he, hb2⟩; unfold refp at he; subst he)
  exact ⟨rfl, rfl, ((Below.refl _ W).alloc (Nat.le_refl _) _).trans (hb2.mono (by simp))⟩

end Go.Proofs.YtlgkfhipobdcfabGreatDoor
