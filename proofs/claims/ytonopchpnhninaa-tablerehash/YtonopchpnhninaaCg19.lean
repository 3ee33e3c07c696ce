/- The walk of begin: both heaps, both tables. -/
import Derived.Test.YtonopchpnhninaaCg18
namespace Go.Proofs.Ytonopchpnhninaa
open Go.RowKit

theorem new_hp (w : World) (n : Int) (No : Nat → Prop) (hn : ∀ g, No g → g < w.heap.size) : H.Hp No ((w.alloc (.map #[] 0)).alloc (.cells #[.int .i64 n, .int .i64 0, .int .i64 0, .slice none 0 0, .map (some w.heap.size)] 75)) (w.heap.size + 1) w.heap.size 0 (.slice none 0 0) (H.newSt n) := by
  have e : (w.alloc (.map #[] 0)).heap.size = w.heap.size + 1 := by simp
  have hs := (MapKept.heap_alloc (w.alloc (.map #[] 0)) (.cells #[.int .i64 n, .int .i64 0, .int .i64 0, .slice none 0 0, .map (some w.heap.size)] 75)).1
  rw [e] at hs
  refine ⟨hs, World.ownsRow_nil _ _ _ _, (H.Rdy.made No w).alloc _, Nat.le_refl _, fun q => ?_, fun q => ?_, fun g e => (by cases e), fun g q => ?_⟩
  · have := hn _ q; omega
  · have := hn _ q; omega
  · have := hn _ q; simp; omega
theorem new_rh (w : World) (n : Int) (No : Nat → Prop) (hn : ∀ g, No g → g < w.heap.size) : RH No (w.alloc (.cells #[.int .i64 n, .int .i64 0, .int .i64 0, .slice none 0 0] 60)) w.heap.size 0 (H.newSt n) := by
  refine ⟨.slice none 0 0, ⟨n, 0, 0, []⟩, ⟨(MapKept.heap_alloc w _).1, World.ownsRow_nil _ _ _ _, Nat.le_refl _, fun q => ?_, fun g e => (by cases e), fun g q => ?_⟩, H.Sim.new n, Int.le_refl _⟩
  · have := hn _ q; omega
  · have := hn _ q; simp; omega
theorem TT.frame2 {No : Nat → Prop} {w w' : World} {T A b a S hb c : Nat} {t : TS} {s : H.St} (h : TT No w T A b a S hb c t s) (hos : w'.os = w.os) (ht : w'.tape = w.tape) (ho : w'.output = w.output) (hs : w.heap.size ≤ w'.heap.size) (hk : ∀ g, g < w.heap.size → ¬ No g → w'.heap[g]? = w.heap[g]?) :
    TT (fun g => No g ∨ (w.heap.size ≤ g ∧ g < w'.heap.size)) w' T A b a S hb c t s := by
  obtain ⟨vb, hp⟩ := h.hp
  have l1 := h.tm.pm.ltA
  have l2 := h.tm.pm.ltB
  have l3 := h.tm.pm.pt.lta
  have l4 := h.tm.pm.pt.ltb
  have k : Keep (fun g => ¬ No g) w w' := ⟨hos, ht, ho, hs, hk⟩
  refine ⟨h.tm.kept k h.nT h.nA h.nb h.na, ⟨vb, Hp.sub (Hp.frame2 hp hos ht ho hs (fun g hg hn => hk g hg (fun q => hn (.inl q)))) (fun g q => ?_)⟩, fun q => q.elim h.nT (by omega), fun q => q.elim h.nA (by omega), fun q => q.elim h.nb (by omega), fun q => q.elim h.na (by omega), h.ti, h.iv, h.p0, h.p1⟩
  rcases q with (q | q) | q
  · exact .inl (.inl q)
  · exact .inr q
  · exact .inl (.inr q)

/-- What New comes to. -/
def inP (x : Int) : Prop := 0 ≤ x ∧ x ≤ 65536
instance (x : Int) : Decidable (inP x) := inferInstanceAs (Decidable (_ ∧ _))
def nE (s : H.St) (x y : Int) : Int := if ¬ (inP x ∧ inP y) then 1 else if H.takeE s 4 ≠ 0 then H.takeE s 4 else tpE (H.takeSt s 4) x (C.up2 y)
def nS (s : H.St) (x y : Int) : H.St := if ¬ (inP x ∧ inP y) then s else if H.takeE s 4 ≠ 0 then s else if tpE (H.takeSt s 4) x (C.up2 y) ≠ 0 then H.giveSt (tpS (H.takeSt s 4) x (C.up2 y)) (H.takeId s 4) else tpS (H.takeSt s 4) x (C.up2 y)
theorem nS_inv {s : H.St} (iv : H.Inv 0 s) (x y : Int) : H.Inv 0 (nS s x y) := by
  unfold nS
  split
  · exact iv
  · split
    · exact iv
    · split
      · exact (tp_inv (iv.take 4) _ _).give _
      · exact tp_inv (iv.take 4) _ _
theorem inP.nat {x : Int} (h : inP x) : ∃ n : Nat, x = n ∧ n ≤ 65536 := ⟨x.toNat, by have := h.1; omega, by have := h.1; have := h.2; omega⟩
theorem nE_arg {s : H.St} {x y : Int} (hp : ¬ (inP x ∧ inP y)) : nE s x y = 1 ∧ nS s x y = s := ⟨by unfold nE; rw [if_pos hp], by unfold nS; rw [if_pos hp]⟩
theorem nE_four {s : H.St} {x y : Int} (hp : inP x ∧ inP y) (h4 : H.takeE s 4 ≠ 0) : nE s x y = H.takeE s 4 ∧ nS s x y = s := by
  have hp' : ¬ ¬ (inP x ∧ inP y) := fun q => q hp
  exact ⟨by unfold nE; rw [if_neg hp', if_pos h4], by unfold nS; rw [if_neg hp', if_pos h4]⟩
theorem nE_rest {s : H.St} {x y : Int} (hp : inP x ∧ inP y) (h4 : H.takeE s 4 = 0) : nE s x y = tpE (H.takeSt s 4) x (C.up2 y) ∧ nS s x y = (if tpE (H.takeSt s 4) x (C.up2 y) ≠ 0 then H.giveSt (tpS (H.takeSt s 4) x (C.up2 y)) (H.takeId s 4) else tpS (H.takeSt s 4) x (C.up2 y)) := by
  have hp' : ¬ ¬ (inP x ∧ inP y) := fun q => q hp
  have h4' : ¬ H.takeE s 4 ≠ 0 := fun q => q h4
  exact ⟨by unfold nE; rw [if_neg hp', if_neg h4'], by unfold nS; rw [if_neg hp', if_neg h4']⟩
theorem tpE_one {s : H.St} {n z : Int} (q : H.takeE s n ≠ 0) : tpE s n z = H.takeE s n ∧ tpS s n z = s := ⟨by unfold tpE; rw [if_pos q], by unfold tpS; rw [if_pos q]⟩
theorem tpE_two {s : H.St} {n z : Int} (q : H.takeE s n = 0) : tpE s n z = H.takeE (H.takeSt s n) (3 * z) ∧ tpS s n z = if H.takeE (H.takeSt s n) (3 * z) ≠ 0 then H.giveSt (H.takeSt s n) (H.takeId s n) else H.takeSt (H.takeSt s n) (3 * z) := by
  have q' : ¬ H.takeE s n ≠ 0 := fun h => h q
  exact ⟨by unfold tpE; rw [if_neg q'], by unfold tpS; rw [if_neg q']⟩
theorem new_fail {No : Nat → Prop} {w : World} {S hb c : Nat} {vb : Value} {s : H.St} (h : H.Hp No w S hb c vb s) (hc : c ≤ 700000) (iv : H.Inv 0 s) (x y : Int) (he : nE s x y ≠ 0) :
    Calls Try.prog 19 #[.pointer (some ⟨S, 0, none⟩), .int .i64 x, .int .i64 y] w fun e w' => e = .returned (.tuple #[.pointer none, .int .i64 (nE s x y)]) ∧ (∃ v', H.Hp No w' S hb (c + 5) v' (nS s x y)) ∧ Keep No w w' := by
  by_cases hp : inP x ∧ inP y
  · by_cases h4 : H.takeE s 4 = 0
    · obtain ⟨e1, e2⟩ := nE_rest hp h4
      rw [e1] at he
      rw [e1, e2, if_pos he]
      obtain ⟨n, rfl, hn⟩ := hp.1.nat
      obtain ⟨m, rfl, hm⟩ := hp.2.nat
      obtain ⟨z, hz, hz2, _⟩ := up2_rt (m : Nat) (by omega) (by omega)
      rw [hz] at he ⊢
      exact new_parts h hc iv n m z hn hm hz hz2.le h4 he
    · obtain ⟨e1, e2⟩ := nE_four hp h4
      rw [e1, e2]
      obtain ⟨n, rfl, hn⟩ := hp.1.nat
      obtain ⟨m, rfl, hm⟩ := hp.2.nat
      refine (new_cells h hc iv n m hn hm h4).mono ?_
      rintro e w' ⟨rfl, ⟨v', hp'⟩, kk⟩
      exact ⟨rfl, ⟨v', hp'.more (by omega)⟩, kk⟩
  · obtain ⟨e1, e2⟩ := nE_arg (s := s) hp
    rw [e1, e2]
    refine (new_arg w _ (.inr ⟨S, rfl⟩) x y (.inr ?_)).mono ?_
    · by_cases q : inP x
      · exact .inr fun q2 => hp ⟨q, q2⟩
      · exact .inl q
    · rintro e w' ⟨rfl, rfl⟩
      exact ⟨rfl, ⟨vb, h.more (by omega)⟩, Keep.refl _ _⟩
theorem rnew_fail {No : Nat → Prop} {w : World} {S c : Nat} {s : H.St} (h : RH No w S c s) (hc : c ≤ 700000) (iv : H.Inv 0 s) (x y : Int) (he : nE s x y ≠ 0) :
    Calls Try.prog 23 #[.pointer (some ⟨S, 0, none⟩), .int .i64 x, .int .i64 y] w fun e w' => e = .returned (.tuple #[.pointer none, .int .i64 (nE s x y)]) ∧ RH No w' S (c + 5) (nS s x y) ∧ Keep No w w' := by
  by_cases hp : inP x ∧ inP y
  · by_cases h4 : H.takeE s 4 = 0
    · obtain ⟨e1, e2⟩ := nE_rest hp h4
      rw [e1] at he
      rw [e1, e2, if_pos he]
      obtain ⟨n, rfl, hn⟩ := hp.1.nat
      obtain ⟨m, rfl, hm⟩ := hp.2.nat
      obtain ⟨z, hz, hz2, _⟩ := up2_rt (m : Nat) (by omega) (by omega)
      rw [hz] at he ⊢
      by_cases q : H.takeE (H.takeSt s 4) (n : Nat) = 0
      · obtain ⟨e3, e4⟩ := tpE_two (z := (z : Nat)) q
        rw [e3] at he
        rw [e3, e4, if_pos he]
        exact rnew_two h hc iv n m z hn hm hz hz2.le h4 q he
      · obtain ⟨e3, e4⟩ := tpE_one (z := (z : Nat)) q
        rw [e3, e4]
        refine (rnew_one h hc iv n m hn hm h4 q).mono ?_
        rintro e w' ⟨rfl, hp', kk⟩
        exact ⟨rfl, hp'.more (by omega), kk⟩
    · obtain ⟨e1, e2⟩ := nE_four hp h4
      rw [e1, e2]
      obtain ⟨n, rfl, hn⟩ := hp.1.nat
      obtain ⟨m, rfl, hm⟩ := hp.2.nat
      refine (rnew_cells h hc iv n m hn hm h4).mono ?_
      rintro e w' ⟨rfl, hp', kk⟩
      exact ⟨rfl, hp'.more (by omega), kk⟩
  · obtain ⟨e1, e2⟩ := nE_arg (s := s) hp
    rw [e1, e2]
    refine (rnew_arg w S x y ?_).mono ?_
    · by_cases q : inP x
      · exact .inr fun q2 => hp ⟨q, q2⟩
      · exact .inl q
    · rintro e w' ⟨rfl, rfl⟩
      exact ⟨rfl, h.more (by omega), Keep.refl _ _⟩
/-- What it takes that New succeeds. -/
structure Okn (s : H.St) (x y : Int) (n z : Nat) : Prop where
  ex : x = n
  hn : n ≤ 65536
  hy : ∃ m : Nat, y = m ∧ m ≤ 65536 ∧ C.up2 (m : Nat) = (z : Nat)
  hz : Rt z
  e1 : H.takeE s 4 = 0
  e2 : H.takeE (H.takeSt s 4) (n : Nat) = 0
  e3 : H.takeE (H.takeSt (H.takeSt s 4) (n : Nat)) (3 * (z : Nat)) = 0
  es : nS s x y = H.takeSt (H.takeSt (H.takeSt s 4) (n : Nat)) (3 * (z : Nat))
theorem okn {s : H.St} {x y : Int} (he : nE s x y = 0) : ∃ n z, Okn s x y n z := by
  by_cases hp : inP x ∧ inP y
  · by_cases h4 : H.takeE s 4 = 0
    · obtain ⟨e1, e2⟩ := nE_rest hp h4
      rw [e1] at he
      rw [if_neg (fun q => q he)] at e2
      obtain ⟨n, rfl, hn⟩ := hp.1.nat
      obtain ⟨m, rfl, hm⟩ := hp.2.nat
      obtain ⟨z, hz, hz2, _⟩ := up2_rt (m : Nat) (by omega) (by omega)
      rw [hz] at he e2
      by_cases q : H.takeE (H.takeSt s 4) (n : Nat) = 0
      · obtain ⟨e3, e4⟩ := tpE_two (z := (z : Nat)) q
        rw [e3] at he
        rw [if_neg (fun q => q he)] at e4
        exact ⟨n, z, rfl, hn, ⟨m, rfl, hm, hz⟩, hz2, h4, q, he, e2.trans e4⟩
      · rw [(tpE_one (z := (z : Nat)) q).1] at he; exact absurd he q
    · rw [(nE_four hp h4).1] at he; exact absurd he h4
  · rw [(nE_arg hp).1] at he; cases he

abbrev cv (l x y : Int) (v : Value) : Value := .agg #[.int .i64 l, .int .i64 x, .int .i64 y, v]
set_option maxRecDepth 20000 in
set_option maxHeartbeats 2000000 in
theorem begin_lim (l x y : Int) (a : Option Addr) (n cap : Nat) (w : World) (hl : l < 0 ∨ 400000 < l) :
    Calls Try.prog 8 #[cv l x y (.slice a n cap)] w fun e w' => e = .returned (.tuple #[.pointer none, .pointer none, .pointer none, .bool true]) ∧ Below w.heap.size w w' := by
  have C1 := fun W => H.new_bad W l hl
  have C2 := fun W => new_arg W (.pointer none) (.inl rfl) 0 0 (.inl rfl)
  unfold cv
  have HB : Hid _ := b1 w (.cells #[.int .i64 l, .int .i64 x, .int .i64 y, .slice a n cap] 24)
  rcases hl with hl | hl
  · go_enter Try.func8, Try.ntmps8
    go_wp2_with fail
    refine (C1 _).mono ?_; rintro e w1 ⟨rfl, hw1⟩; rw [hw1]; clear hw1
    go_wp2_with fail
    refine (C2 _).mono ?_; rintro e w1 ⟨rfl, hw1⟩; rw [hw1]; clear hw1
    go_wp2_with fail
    go_quiet (fail)
    go_wp2_with fail
    refine bodyPost_ret (v := .tuple #[.pointer none, .pointer none, .pointer none, .bool true]) (by simp [results, Try.results8, go_sem]) rfl ⟨rfl, bthen HB.out HB.out.size (bdrew _ _ _)⟩
  · have hl0 : ¬ l < 0 := by omega
    go_enter Try.func8, Try.ntmps8
    go_wp2_with fail
    refine (C1 _).mono ?_; rintro e w1 ⟨rfl, hw1⟩; rw [hw1]; clear hw1
    go_wp2_with fail
    refine (C2 _).mono ?_; rintro e w1 ⟨rfl, hw1⟩; rw [hw1]; clear hw1
    go_wp2_with fail
    go_quiet (fail)
    go_wp2_with fail
    refine bodyPost_ret (v := .tuple #[.pointer none, .pointer none, .pointer none, .bool true]) (by simp [results, Try.results8, go_sem]) rfl ⟨rfl, bthen HB.out HB.out.size (bdrew _ _ _)⟩

set_option maxRecDepth 20000 in
set_option maxHeartbeats 4000000 in
theorem begin_fail (l x y : Int) (a : Option Addr) (n cap : Nat) (w : World) (h0 : 0 ≤ l) (h1 : l ≤ 400000) (he : nE (H.newSt l) x y ≠ 0) :
    Calls Try.prog 8 #[cv l x y (.slice a n cap)] w fun e w' => ∃ S, e = .returned (.tuple #[.pointer none, .pointer (some ⟨S, 0, none⟩), .pointer none, .bool true]) ∧ Below w.heap.size w w' := by
  have iv := H.Inv.new l h0 h1
  have C1 := fun W => H.new_walk W l h0 h1
  have B0 := b1 w (.cells #[.int .i64 l, .int .i64 x, .int .i64 y, .slice a n cap] 24)
  have c0 : (w.alloc (.cells #[.int .i64 l, .int .i64 x, .int .i64 y, .slice a n cap] 24)).heap[w.heap.size]? = some (.cells #[.int .i64 l, .int .i64 x, .int .i64 y, .slice a n cap] 24) := (MapKept.heap_alloc w _).1
  have e0 : (w.alloc (.cells #[.int .i64 l, .int .i64 x, .int .i64 y, .slice a n cap] 24)).heap.size = w.heap.size + 1 := by simp
  obtain ⟨W0, hW0⟩ : ∃ W0, w.alloc (.cells #[.int .i64 l, .int .i64 x, .int .i64 y, .slice a n cap] 24) = W0 := ⟨_, rfl⟩
  rw [hW0] at B0 c0 e0
  have hp := new_hp W0 l (fun g => g < W0.heap.size) (fun g q => q)
  have B1 := b2 W0 (.map #[] 0) (.cells #[.int .i64 l, .int .i64 0, .int .i64 0, .slice none 0 0, .map (some W0.heap.size)] 75)
  have C1' := C1 W0
  obtain ⟨W1, hW1⟩ : ∃ W1, (W0.alloc (.map #[] 0)).alloc (.cells #[.int .i64 l, .int .i64 0, .int .i64 0, .slice none 0 0, .map (some W0.heap.size)] 75) = W1 := ⟨_, rfl⟩
  rw [hW1] at hp B1 C1'
  have C2 := new_fail hp (by omega) iv x y he
  have HKc : Hid (∀ W, Keep (fun g => g < W0.heap.size) W1 W → W.heap[w.heap.size]? = some (.cells #[.int .i64 l, .int .i64 x, .int .i64 y, .slice a n cap] 24) ∧ Below w.heap.size w W) := fun W k => by
    have l0 : w.heap.size < W1.heap.size := by have := B1.size; omega
    refine ⟨(k.block _ l0 (by show _ < _; omega)).trans ((B1.block _ (by omega)).trans c0), ?_⟩
    exact bthen B0 B0.size (B1.trans (k.below (by have := B1.size; omega) (fun g hg => hg)))
  have HC3 : Hid (∀ W : World, RH (fun g => g < W.heap.size) (W.alloc (.cells #[.int .i64 l, .int .i64 0, .int .i64 0, .slice none 0 0] 60)) W.heap.size 0 (H.newSt l)) := fun W => new_rh W l _ (fun g q => q)
  have hx0 := HKc.out W1 (Keep.refl _ _)
  have x0 : W1.cell? ⟨w.heap.size, 0, none⟩ = some (.int .i64 l) := cell_of_row hx0.1 0
  have x1 : W1.cell? ⟨w.heap.size, 1, none⟩ = some (.int .i64 x) := cell_of_row hx0.1 1
  have x2 : W1.cell? ⟨w.heap.size, 2, none⟩ = some (.int .i64 y) := cell_of_row hx0.1 2
  have y0 : W0.cell? ⟨w.heap.size, 0, none⟩ = some (.int .i64 l) := cell_of_row c0 0
  have HE : Hid (nE (H.newSt l) x y ≠ 0) := he
  have HIv : Hid (H.Inv 0 (H.newSt l)) := iv
  have HS1 : Hid (H.Inv 0 (nS (H.newSt l) x y)) := nS_inv iv x y
  generalize hS : W0.heap.size + 1 = S at *
  have HSe : Hid (W0.heap.size + 1 = S) := hS
  clear B0 B1 c0 C1 hp iv hx0
  unfold cv
  go_enter Try.func8, Try.ntmps8
  go_wp2_with fail
  refine C1'.mono ?_; rintro e w1 ⟨rfl, hw1⟩; rw [hw1]; clear hw1 C1'
  go_wp2_with fail
  refine C2.mono ?_; rintro e W2 ⟨rfl, ⟨v2, hp2⟩, kk2⟩
  have hx2 := HKc.out W2 kk2
  have hS2 := hp2.str
  have hiv := HS1.out
  have B3 := b1 W2 (.cells #[.int .i64 l, .int .i64 0, .int .i64 0, .slice none 0 0] 60)
  have rh := HC3.out W2
  obtain ⟨W3, hW3⟩ : ∃ W3, W2.alloc (.cells #[.int .i64 l, .int .i64 0, .int .i64 0, .slice none 0 0] 60) = W3 := ⟨_, rfl⟩
  rw [hW3] at B3 rh
  have C4 := rnew_fail rh (by omega) HIv.out x y HE.out
  have z0 : W2.cell? ⟨w.heap.size, 0, none⟩ = some (.int .i64 l) := cell_of_row hx2.1 0
  have hl2 : w.heap.size < W2.heap.size := (Array.getElem?_eq_some_iff.1 hx2.1).1
  have hx3 := (B3.block _ hl2).trans hx2.1
  have z1 : W3.cell? ⟨w.heap.size, 1, none⟩ = some (.int .i64 x) := cell_of_row hx3 1
  have z2 : W3.cell? ⟨w.heap.size, 2, none⟩ = some (.int .i64 y) := cell_of_row hx3 2
  have hlS : S < W2.heap.size := (Array.getElem?_eq_some_iff.1 hS2).1
  have HS3 : Hid (∀ W, Keep (fun g => g < W2.heap.size) W3 W → W.heap[S]? = some (.cells #[.int .i64 (nS (H.newSt l) x y).lim, .int .i64 (nS (H.newSt l) x y).live, .int .i64 (nS (H.newSt l) x y).laid, v2, .map (some W0.heap.size)] 75 (0, 0)) ∧ Below w.heap.size w W) := fun W k =>
    ⟨(k.block S (by have := B3.size; omega) hlS).trans ((B3.block S hlS).trans hS2), hx2.2.trans ((B3.mono (by omega)).trans ((k.below (by have := B3.size; omega) (fun g hg => hg)).mono (by omega)))⟩
  generalize hG : W2.heap.size = G at *
  clear C2 hp2 kk2 hx2 hS2 rh B3 hx3 x0 x1 x2 y0
  go_wp2_with fail
  refine C4.mono ?_; rintro e W4 ⟨rfl, rh4, kk4⟩
  have hs4 := HS3.out W4 kk4
  have C5 : Calls Try.prog 12 #[.pointer (some ⟨S, 0, none⟩)] W4 fun e w' => e = .returned (.int .i64 (nS (H.newSt l) x y).live) ∧ w' = W4 := H.live_any _ S _ (H.cell_row hs4.1 1)
  have C6 : Calls Try.prog 25 #[.pointer (some ⟨S, 0, none⟩)] W4 fun e w' => e = .returned (.int .i64 (nS (H.newSt l) x y).laid) ∧ w' = W4 := H.laid_any _ S _ (H.cell_row hs4.1 2)
  have C7 : Calls Try.prog 24 #[.pointer (some ⟨G, 0, none⟩)] W4 fun e w' => e = .returned (.int .i64 (nS (H.newSt l) x y).live) ∧ w' = W4 := rlv_any rh4 (by omega) hiv
  have C8 : Calls Try.prog 26 #[.pointer (some ⟨G, 0, none⟩)] W4 fun e w' => e = .returned (.int .i64 (nS (H.newSt l) x y).laid) ∧ w' = W4 := rld_any rh4 (by omega) hiv
  have HB4 : Hid (Below w.heap.size w W4) := hs4.2
  clear C4 rh4 kk4 hs4 HS3 z0 z1 z2 hiv
  generalize nE (H.newSt l) x y = E at *
  generalize (nS (H.newSt l) x y).live = lv at *
  generalize (nS (H.newSt l) x y).laid = ld at *
  go_wp2_with fail
  refine C5.mono ?_; rintro e w5 ⟨rfl, hw5⟩; rw [hw5]; clear hw5 C5
  go_wp2_with fail
  refine C7.mono ?_; rintro e w5 ⟨rfl, hw5⟩; rw [hw5]; clear hw5 C7
  go_wp2_with fail
  refine C6.mono ?_; rintro e w5 ⟨rfl, hw5⟩; rw [hw5]; clear hw5 C6
  go_wp2_with fail
  refine C8.mono ?_; rintro e w5 ⟨rfl, hw5⟩; rw [hw5]; clear hw5 C8
  go_wp2_with fail
  refine bodyPost_ret (v := .tuple #[.pointer none, .pointer (some ⟨S, 0, none⟩), .pointer none, .bool true]) (by simp [results, Try.results8, go_sem]) rfl ⟨S, rfl, HB4.out⟩
end Go.Proofs.Ytonopchpnhninaa

/- The walk of begin, on: both tables. -/
namespace Go.Proofs.Ytonopchpnhninaa
open Go.RowKit

theorem Okn.new {No : Nat → Prop} {w : World} {S hb c n z : Nat} {vb : Value} {s : H.St} {x y : Int} (o : Okn s x y n z) (h : H.Hp No w S hb c vb s) (hc : c ≤ 700000) (iv : H.Inv 0 s) :
    Calls Try.prog 19 #[.pointer (some ⟨S, 0, none⟩), .int .i64 x, .int .i64 y] w fun e w' => ∃ T A b a, e = .returned (.tuple #[.pointer (some ⟨T, 0, none⟩), .int .i64 0]) ∧ TT No w' T A b a S hb (c + 3) (newT n z (H.takeId (H.takeSt s 4) (n : Nat)) (H.takeId (H.takeSt (H.takeSt s 4) (n : Nat)) (3 * (z : Nat)))) (nS s x y) ∧ Keep No w w' := by
  obtain ⟨m, rfl, hm, hz⟩ := o.hy
  obtain ⟨e3, e4⟩ := tpE_two (z := (z : Nat)) o.e2
  rw [if_neg (fun q => q o.e3)] at e4
  rw [o.es, ← e4, o.ex]
  exact new_good h hc iv n m z o.hn hm hz o.hz o.e1 (e3.trans o.e3)
theorem Okn.rnew {No : Nat → Prop} {w : World} {S c n z : Nat} {s : H.St} {x y : Int} (o : Okn s x y n z) (h : RH No w S c s) (hc : c ≤ 700000) (iv : H.Inv 0 s) :
    Calls Try.prog 23 #[.pointer (some ⟨S, 0, none⟩), .int .i64 x, .int .i64 y] w fun e w' => ∃ RT A P ka va ca, e = .returned (.tuple #[.pointer (some ⟨RT, 0, none⟩), .int .i64 0]) ∧ RH (fun g => No g ∨ g = RT ∨ g = A ∨ g = P ∨ g = ka ∨ g = va ∨ g = ca) w' S (c + 3) (nS s x y) ∧ Keep No w w' ∧
      Nr w w' n z RT A P ka va ca S (H.takeId (H.takeSt s 4) (n : Nat)) (H.takeId (H.takeSt (H.takeSt s 4) (n : Nat)) (3 * (z : Nat))) := by
  obtain ⟨m, rfl, hm, hz⟩ := o.hy
  rw [o.es, o.ex]
  exact rnew_good h hc iv n m z o.hn hm hz o.hz.le o.e1 o.e2 o.e3
/-- Both tables behind begin: the program's blocks lie below M, the reference's from M on. -/
structure Bgn (w w' : World) (M T A b a S hb RT RA P ka va ca G n z : Nat) (t : TS) (s : H.St) : Prop where
  tt : TT (fun g => g < w.heap.size ∨ (M ≤ g ∧ g < w'.heap.size)) w' T A b a S hb 3 t s
  rh : RH (fun g => g < M ∨ g = RT ∨ g = RA ∨ g = P ∨ g = ka ∨ g = va ∨ g = ca) w' G 3 s
  nr : ∃ W, M ≤ W.heap.size ∧ Nr W w' n z RT RA P ka va ca G t.sb t.nb
  bel : Below w.heap.size w w'
  le : w.heap.size ≤ M
  iv : H.Inv 0 s
  et : t = newT n z t.sb t.nb
  rt : Rt z
  en : n ≤ 65536
set_option maxRecDepth 20000 in
set_option maxHeartbeats 4000000 in
theorem begin_ok (l x y : Int) (a : Option Addr) (n cap : Nat) (w : World) (h0 : 0 ≤ l) (h1 : l ≤ 400000) (he : nE (H.newSt l) x y = 0) :
    Calls Try.prog 8 #[cv l x y (.slice a n cap)] w fun e w' => ∃ M T A b a' S hb RT RA P ka va ca G n' z t, e = .returned (.tuple #[tp T, tp S, tp RT, .bool true]) ∧ Bgn w w' M T A b a' S hb RT RA P ka va ca G n' z t (nS (H.newSt l) x y) ∧ Okn (H.newSt l) x y n' z ∧ t.sb = H.takeId (H.takeSt (H.newSt l) 4) (n' : Nat) ∧ t.nb = H.takeId (H.takeSt (H.takeSt (H.newSt l) 4) (n' : Nat)) (3 * (z : Nat)) := by
  have iv := H.Inv.new l h0 h1
  have C1 := fun W => H.new_walk W l h0 h1
  have B0 := b1 w (.cells #[.int .i64 l, .int .i64 x, .int .i64 y, .slice a n cap] 24)
  have c0 : (w.alloc (.cells #[.int .i64 l, .int .i64 x, .int .i64 y, .slice a n cap] 24)).heap[w.heap.size]? = some (.cells #[.int .i64 l, .int .i64 x, .int .i64 y, .slice a n cap] 24) := (MapKept.heap_alloc w _).1
  have e0 : (w.alloc (.cells #[.int .i64 l, .int .i64 x, .int .i64 y, .slice a n cap] 24)).heap.size = w.heap.size + 1 := by simp
  obtain ⟨W0, hW0⟩ : ∃ W0, w.alloc (.cells #[.int .i64 l, .int .i64 x, .int .i64 y, .slice a n cap] 24) = W0 := ⟨_, rfl⟩
  rw [hW0] at B0 c0 e0
  have hp := new_hp W0 l (fun g => g < W0.heap.size) (fun g q => q)
  have B1 := b2 W0 (.map #[] 0) (.cells #[.int .i64 l, .int .i64 0, .int .i64 0, .slice none 0 0, .map (some W0.heap.size)] 75)
  have C1' := C1 W0
  obtain ⟨W1, hW1⟩ : ∃ W1, (W0.alloc (.map #[] 0)).alloc (.cells #[.int .i64 l, .int .i64 0, .int .i64 0, .slice none 0 0, .map (some W0.heap.size)] 75) = W1 := ⟨_, rfl⟩
  rw [hW1] at hp B1 C1'
  obtain ⟨n', z, hok⟩ := okn he
  have C2 := hok.new hp (by omega) iv
  have HKc : Hid (∀ W, Keep (fun g => g < W0.heap.size) W1 W → W.heap[w.heap.size]? = some (.cells #[.int .i64 l, .int .i64 x, .int .i64 y, .slice a n cap] 24) ∧ Below w.heap.size w W) := fun W k => by
    have l0 : w.heap.size < W1.heap.size := by have := B1.size; omega
    refine ⟨(k.block _ l0 (by show _ < _; omega)).trans ((B1.block _ (by omega)).trans c0), ?_⟩
    exact bthen B0 B0.size (B1.trans (k.below (by have := B1.size; omega) (fun g hg => hg)))
  have HC3 : Hid (∀ W : World, RH (fun g => g < W.heap.size) (W.alloc (.cells #[.int .i64 l, .int .i64 0, .int .i64 0, .slice none 0 0] 60)) W.heap.size 0 (H.newSt l)) := fun W => new_rh W l _ (fun g q => q)
  have hx0 := HKc.out W1 (Keep.refl _ _)
  have x0 : W1.cell? ⟨w.heap.size, 0, none⟩ = some (.int .i64 l) := cell_of_row hx0.1 0
  have x1 : W1.cell? ⟨w.heap.size, 1, none⟩ = some (.int .i64 x) := cell_of_row hx0.1 1
  have x2 : W1.cell? ⟨w.heap.size, 2, none⟩ = some (.int .i64 y) := cell_of_row hx0.1 2
  have y0 : W0.cell? ⟨w.heap.size, 0, none⟩ = some (.int .i64 l) := cell_of_row c0 0
  have HOK : Hid (Okn (H.newSt l) x y n' z) := hok
  have HIv : Hid (H.Inv 0 (H.newSt l)) := iv
  have HS1 : Hid (H.Inv 0 (nS (H.newSt l) x y)) := nS_inv iv x y
  generalize hS : W0.heap.size + 1 = S at *
  have HSe : Hid (W0.heap.size + 1 = S) := hS
  clear B0 B1 c0 C1 hp iv hx0
  unfold cv
  go_enter Try.func8, Try.ntmps8
  go_wp2_with fail
  refine C1'.mono ?_; rintro e w1 ⟨rfl, hw1⟩; rw [hw1]; clear hw1 C1'
  go_wp2_with fail
  refine C2.mono ?_; rintro e W2 ⟨T, A, b, a', rfl, tt2, kk2⟩
  have hx2 := HKc.out W2 kk2
  obtain ⟨v2, hp2⟩ := tt2.hp
  have hS2 := hp2.str
  have hiv := HS1.out
  have B3 := b1 W2 (.cells #[.int .i64 l, .int .i64 0, .int .i64 0, .slice none 0 0] 60)
  have e3 : (W2.alloc (.cells #[.int .i64 l, .int .i64 0, .int .i64 0, .slice none 0 0] 60)).heap.size = W2.heap.size + 1 := by simp
  have rh := HC3.out W2
  obtain ⟨W3, hW3⟩ : ∃ W3, W2.alloc (.cells #[.int .i64 l, .int .i64 0, .int .i64 0, .slice none 0 0] 60) = W3 := ⟨_, rfl⟩
  rw [hW3] at B3 rh e3
  have C4 := HOK.out.rnew rh (by omega) HIv.out
  have z0 : W2.cell? ⟨w.heap.size, 0, none⟩ = some (.int .i64 l) := cell_of_row hx2.1 0
  have hl2 : w.heap.size < W2.heap.size := (Array.getElem?_eq_some_iff.1 hx2.1).1
  have hx3 := (B3.block _ hl2).trans hx2.1
  have z1 : W3.cell? ⟨w.heap.size, 1, none⟩ = some (.int .i64 x) := cell_of_row hx3 1
  have z2 : W3.cell? ⟨w.heap.size, 2, none⟩ = some (.int .i64 y) := cell_of_row hx3 2
  have hlS : S < W2.heap.size := (Array.getElem?_eq_some_iff.1 hS2).1
  have HS3 : Hid (∀ W, Keep (fun g => g < W2.heap.size) W3 W → W.heap[S]? = some (.cells #[.int .i64 (nS (H.newSt l) x y).lim, .int .i64 (nS (H.newSt l) x y).live, .int .i64 (nS (H.newSt l) x y).laid, v2, .map (some W0.heap.size)] 75 (0, 0)) ∧ Below w.heap.size w W) := fun W k =>
    ⟨(k.block S (by have := B3.size; omega) hlS).trans ((B3.block S hlS).trans hS2), hx2.2.trans ((B3.mono (by omega)).trans ((k.below (by have := B3.size; omega) (fun g hg => hg)).mono (by omega)))⟩
  have HT3 : Hid (∀ W, Keep (fun g => g < W2.heap.size) W3 W → TT (fun g => g < w.heap.size ∨ (W2.heap.size ≤ g ∧ g < W.heap.size)) W T A b a' S W0.heap.size 3 (newT n' z (H.takeId (H.takeSt (H.newSt l) 4) (n' : Nat)) (H.takeId (H.takeSt (H.takeSt (H.newSt l) 4) (n' : Nat)) (3 * (z : Nat)))) (nS (H.newSt l) x y)) := fun W k => by
    have t3 := tt2.news B3
    refine (t3.frame2 k.os k.tape k.output k.size (fun g hg hn => k.block g hg ?_)).sub (fun g q => ?_)
    · rcases Nat.lt_or_ge g W2.heap.size with q | q
      · exact q
      · exact absurd (.inr ⟨q, hg⟩) hn
    · have := k.size
      rcases q with q | q
      · exact .inl (.inl (by show g < W0.heap.size; omega))
      · rcases Nat.lt_or_ge g W3.heap.size with q2 | q2
        · exact .inl (.inr ⟨q.1, q2⟩)
        · exact .inr ⟨q2, q.2⟩
  have HM : Hid (w.heap.size ≤ W2.heap.size ∧ W2.heap.size ≤ W3.heap.size) := ⟨by omega, by omega⟩
  generalize hG : W2.heap.size = G at *
  clear C2 hp2 kk2 hx2 hS2 rh B3 hx3 x0 x1 x2 y0 tt2
  go_wp2_with fail
  refine C4.mono ?_; rintro e W4 ⟨RT, RA, P, ka, va, ca, rfl, rh4, kk4, nr4⟩
  have hs4 := HS3.out W4 kk4
  have C5 : Calls Try.prog 12 #[.pointer (some ⟨S, 0, none⟩)] W4 fun e w' => e = .returned (.int .i64 (nS (H.newSt l) x y).live) ∧ w' = W4 := H.live_any _ S _ (H.cell_row hs4.1 1)
  have C6 : Calls Try.prog 25 #[.pointer (some ⟨S, 0, none⟩)] W4 fun e w' => e = .returned (.int .i64 (nS (H.newSt l) x y).laid) ∧ w' = W4 := H.laid_any _ S _ (H.cell_row hs4.1 2)
  have C7 : Calls Try.prog 24 #[.pointer (some ⟨G, 0, none⟩)] W4 fun e w' => e = .returned (.int .i64 (nS (H.newSt l) x y).live) ∧ w' = W4 := rlv_any rh4 (by omega) hiv
  have C8 : Calls Try.prog 26 #[.pointer (some ⟨G, 0, none⟩)] W4 fun e w' => e = .returned (.int .i64 (nS (H.newSt l) x y).laid) ∧ w' = W4 := rld_any rh4 (by omega) hiv
  have HBG : Hid (Bgn w W4 G T A b a' S W0.heap.size RT RA P ka va ca G n' z (newT n' z (H.takeId (H.takeSt (H.newSt l) 4) (n' : Nat)) (H.takeId (H.takeSt (H.takeSt (H.newSt l) 4) (n' : Nat)) (3 * (z : Nat)))) (nS (H.newSt l) x y)) :=
    ⟨HT3.out W4 kk4, rh4, ⟨W3, HM.out.2, nr4⟩, hs4.2, HM.out.1, hiv, rfl, HOK.out.hz, HOK.out.hn⟩
  clear C4 rh4 kk4 hs4 HS3 HT3 z0 z1 z2 hiv nr4
  generalize (nS (H.newSt l) x y).live = lv at *
  generalize (nS (H.newSt l) x y).laid = ld at *
  go_wp2_with fail
  refine C5.mono ?_; rintro e w5 ⟨rfl, hw5⟩; rw [hw5]; clear hw5 C5
  go_wp2_with fail
  refine C7.mono ?_; rintro e w5 ⟨rfl, hw5⟩; rw [hw5]; clear hw5 C7
  go_wp2_with fail
  refine C6.mono ?_; rintro e w5 ⟨rfl, hw5⟩; rw [hw5]; clear hw5 C6
  go_wp2_with fail
  refine C8.mono ?_; rintro e w5 ⟨rfl, hw5⟩; rw [hw5]; clear hw5 C8
  go_wp2_with fail
  refine bodyPost_ret (v := .tuple #[.pointer (some ⟨T, 0, none⟩), .pointer (some ⟨S, 0, none⟩), .pointer (some ⟨RT, 0, none⟩), .bool true]) (by simp [results, Try.results8, go_sem]) rfl ⟨_, _, _, _, _, _, _, _, _, _, _, _, _, _, _, _, _, rfl, HBG.out, HOK.out, rfl, rfl⟩
end Go.Proofs.Ytonopchpnhninaa

/- The document's first example, as plain data; the walk of fixed. -/
namespace Go.Proofs.Ytonopchpnhninaa
open Go.RowKit
abbrev kI (n : Int) : V := (2, n, ⟨#[]⟩)
abbrev kS (s : ByteArray) : V := (3, 0, s)
def fs0 : H.St := nS (H.newSt 100) 0 0
def ft0 : TS := newT 0 0 (H.takeId (H.takeSt (H.newSt 100) 4) ((0 : Nat) : Int)) (H.takeId (H.takeSt (H.takeSt (H.newSt 100) 4) ((0 : Nat) : Int)) (3 * ((0 : Nat) : Int)))
def nxs (q : TS × H.St × Int) (k v : V) : TS × H.St × Int := tset q.1 q.2.1 k v
def fza : Nat → TS × H.St × Int
  | 0 => (ft0, fs0, 0)
  | i + 1 => nxs (fza i) (kI ((i : Int) + 1)) (kS ⟨#[97]⟩)
def fz5 := nxs (fza 4) (kS ⟨#[120]⟩) (kI 1)
def fz6 := nxs fz5 (kS ⟨#[121]⟩) (kI 2)
theorem fz6n : fz6.1.p.n = 4 ∧ fz6.1.p.z = 2 ∧ fz6.1.hint = 0 ∧ fz6.2.1.live = 14 := ⟨by kernel_rfl, by kernel_rfl, by kernel_rfl, by kernel_rfl⟩
theorem fz6g : pget fz6.1.p (kI 3) = kS ⟨#[97]⟩ ∧ pget fz6.1.p (kS ⟨#[120]⟩) = kI 1 := ⟨by kernel_rfl, by kernel_rfl⟩
theorem ok0 : Okn (H.newSt 100) 0 0 0 0 := ⟨rfl, by omega, ⟨0, rfl, by omega, by kernel_rfl⟩, .inl rfl, by kernel_rfl, by kernel_rfl, by kernel_rfl, by kernel_rfl⟩

theorem under42 : Try.prog.underlying 42 = some (.struct (Try.prog.fieldsOf 42)) := by kernel_rfl
theorem stood42 : Try.prog.stoodInHeld 42 = false := by kernel_rfl
theorem eql42 (x y u v x' y' u' v' : Int) (W : World) : (binOp .eql 42 (sv x y u v) (sv x' y' u' v')).run Try.prog W = .ok (.bool (decide (x = x' ∧ y = y' ∧ u = u' ∧ v = v'))) W := by
  unfold sv
  rw [run_eql_struct, run_equalIn_agg W _ _ _ _ under42 stood42]
  simp [go_sem]
  by_cases h1 : x = x' <;> by_cases h2 : y = y' <;> by_cases h3 : u = u' <;> by_cases h4 : v = v' <;> simp [h1, h2, h3, h4]
theorem neq42 (x y u v x' y' u' v' : Int) (W : World) : (binOp .neq 42 (sv x y u v) (sv x' y' u' v')).run Try.prog W = .ok (.bool (!decide (x = x' ∧ y = y' ∧ u = u' ∧ v = v'))) W := by
  unfold sv
  rw [run_neq_struct, run_equalIn_agg W _ _ _ _ under42 stood42]
  simp [go_sem]
  by_cases h1 : x = x' <;> by_cases h2 : y = y' <;> by_cases h3 : u = u' <;> by_cases h4 : v = v' <;> simp [h1, h2, h3, h4]
theorem fld0 (x y u v : Int) (W : World) : (Instr.field 42 (sv x y u v) 0).run Try.prog W = .ok (.int .i64 x) W := by kernel_rfl
theorem fld1 (x y u v : Int) (W : World) : (Instr.field 42 (sv x y u v) 1).run Try.prog W = .ok (.int .i64 y) W := by kernel_rfl
theorem fld2 (x y u v : Int) (W : World) : (Instr.field 42 (sv x y u v) 2).run Try.prog W = .ok (.int .i64 u) W := by kernel_rfl
theorem fld3 (x y u v : Int) (W : World) : (Instr.field 42 (sv x y u v) 3).run Try.prog W = .ok (.int .i64 v) W := by kernel_rfl
/-- A table that was made behind the world w. -/
def FSt (w : World) (T S hb c : Nat) (q : TS × H.St × Int) (W : World) : Prop := (∃ A b a, TT (fun g => g < w.heap.size) W T A b a S hb c q.1 q.2.1) ∧ Below w.heap.size w W
theorem FSt.below {w W W' : World} {T S hb c : Nat} {q : TS × H.St × Int} (h : FSt w T S hb c q W) (k : Below W.heap.size W W') : FSt w T S hb c q W' := by
  obtain ⟨⟨A, b, a, ht⟩, hb⟩ := h
  exact ⟨⟨A, b, a, ht.below k⟩, bthen hb hb.size k⟩
theorem FSt.set {w W : World} {T S hb c : Nat} {q : TS × H.St × Int} (h : FSt w T S hb c q W) (hc : c ≤ 700000) (k v : V) (hr : Rng k) :
    Calls Try.prog 9 #[tp T, vv k, vv v] W fun e w' => e = .returned (.int .i64 (nxs q k v).2.2) ∧ FSt w T S hb (c + 7) (nxs q k v) w' := by
  obtain ⟨⟨A, b, a, ht⟩, hb⟩ := h
  refine (tset_any ht hc k v hr).mono ?_
  rintro e w' ⟨rfl, ⟨A', b', a', h'⟩, kk⟩
  exact ⟨rfl, ⟨A', b', a', h'⟩, hb.trans (kk.below hb.size (fun g hg => hg))⟩
theorem FSt.get {w W : World} {T S hb c : Nat} {q : TS × H.St × Int} (h : FSt w T S hb c q W) (hc : c ≤ 700000) (k : V) (hr : Rng k) :
    Calls Try.prog 10 #[tp T, vv k] W fun e w' => e = .returned (vv (pget q.1.p k)) ∧ FSt w T S hb (c + 1) ({ q.1 with pr := q.1.pr + (prd q.1.p k : Nat) }, q.2.1, q.2.2) w' := by
  obtain ⟨⟨A, b, a, ht⟩, hb⟩ := h
  refine (tget_any ht (by omega) k hr).mono ?_
  rintro e w' ⟨rfl, h', kk⟩
  exact ⟨rfl, ⟨A, b, a, h'⟩, hb.trans (kk.below hb.size (fun g hg => hg))⟩
theorem FSt.stats {w W : World} {T S hb c : Nat} {q : TS × H.St × Int} (h : FSt w T S hb c q W) : Calls Try.prog 11 #[tp T] W fun e w' => e = .returned (ts q.1) ∧ FSt w T S hb c q w' := by
  have h' := h
  obtain ⟨⟨A, b, a, ht⟩, hb⟩ := h
  refine (stats_any ht.tm).mono ?_
  rintro e w' ⟨rfl, kk⟩
  exact ⟨rfl, h'.below kk⟩
theorem FSt.live {w W : World} {T S hb c : Nat} {q : TS × H.St × Int} (h : FSt w T S hb c q W) : Calls Try.prog 12 #[tp S] W fun e w' => e = .returned (.int .i64 q.2.1.live) ∧ w' = W := by
  obtain ⟨⟨A, b, a, ht⟩, hb⟩ := h
  obtain ⟨v, hp⟩ := ht.hp
  exact H.live_any _ S _ hp.c1
set_option maxRecDepth 20000 in
set_option maxHeartbeats 4000000 in
theorem fixed_any (w : World) : Calls Try.prog 6 #[] w fun e w' => e = .returned (.bool true) ∧ Below w.heap.size w w' := by
  have iv := H.Inv.new 100 (by omega) (by omega)
  have C1 := H.new_walk w 100 (by omega) (by omega)
  have hp := new_hp w 100 (fun g => g < w.heap.size) (fun g q => q)
  have B1 := b2 w (.map #[] 0) (.cells #[.int .i64 100, .int .i64 0, .int .i64 0, .slice none 0 0, .map (some w.heap.size)] 75)
  obtain ⟨W1, hW1⟩ : ∃ W1, (w.alloc (.map #[] 0)).alloc (.cells #[.int .i64 100, .int .i64 0, .int .i64 0, .slice none 0 0, .map (some w.heap.size)] 75) = W1 := ⟨_, rfl⟩
  rw [hW1] at hp B1 C1
  have C2 := ok0.new hp (by omega) iv
  have HB1 : Hid (Below w.heap.size w W1) := B1
  generalize hS : w.heap.size + 1 = S at *
  clear iv hp B1
  go_enter Try.func6, Try.ntmps6
  go_wp2_with fail
  refine C1.mono ?_; rintro e w1 ⟨rfl, hw1⟩; rw [hw1]; clear hw1 C1
  go_wp2_with fail
  refine C2.mono ?_; rintro e W2 ⟨T, A, b, a, rfl, tt2, kk2⟩
  have HT : Hid (FSt w T S w.heap.size 3 (fza 0) W2) := ⟨⟨A, b, a, tt2⟩, HB1.out.trans (kk2.below HB1.out.size (fun g hg => hg))⟩
  clear C2 tt2 kk2
  go_wp2_with fail
  go_loopw [5] (fun iw wr => ∃ i : Nat, iw = .int .i64 ((i : Int) + 1) ∧ i ≤ 4 ∧ Hid (FSt w T S w.heap.size (3 + 7 * i) (fza i) wr)) (fun iw _ => 5 - (intOf iw).toNat)
  case atStart => exact ⟨0, by go_num, by omega, HT⟩
  case round =>
    obtain ⟨i, rfl, hi, HR⟩ := hrel
    clear HT
    by_cases hlt : i < 4
    · have hle : (i : Int) + 1 ≤ 4 := by omega
      have CI := fun W => mkI ((i : Int) + 1) W
      have CS := fun W => mkS ⟨#[97]⟩ W
      unfold vl at CI CS
      go_wp2_with fail
      refine (CI _).mono ?_; rintro e W3 ⟨rfl, b3⟩
      have H3 : Hid (FSt w T S w.heap.size (3 + 7 * i) (fza i) W3) := HR.out.below b3
      clear b3 HR
      go_wp2_with fail
      refine (CS _).mono ?_; rintro e W4 ⟨rfl, b4⟩
      have C4 := (H3.out.below b4).set (by omega) (kI ((i : Int) + 1)) (kS ⟨#[97]⟩) (by constructor <;> simp <;> omega)
      unfold vv vl tp at C4
      clear b4 H3
      go_wp2_with fail
      refine C4.mono ?_; rintro e W5 ⟨rfl, h5⟩
      have H5 : Hid (FSt w T S w.heap.size (3 + 7 * (i + 1)) (fza (i + 1)) W5) := h5
      clear C4 h5
      go_wp2_with fail
      go_round
      case rel => exact ⟨i + 1, by go_num, by omega, H5⟩
      case measure => simp [intOf]; omega
    · obtain rfl : i = 4 := by omega
      have hle : ¬ ((4 : Int) + 1 ≤ 4) := by omega
      have C1 := fun W => mkS ⟨#[120]⟩ W
      have C2 := fun W => mkI 1 W
      have C3 := fun W => mkS ⟨#[121]⟩ W
      have C4 := fun W => mkI 2 W
      unfold vl at C1 C2 C3 C4
      obtain ⟨W3, hW3⟩ : ∃ W3, W3 = wr := ⟨_, rfl⟩
      rw [← hW3] at HR ⊢
      clear hW3
      go_wp2_with fail
      refine (C1 _).mono ?_; rintro e W4 ⟨rfl, b4⟩
      have H4 : Hid (FSt w T S w.heap.size (3 + 7 * 4) (fza 4) W4) := HR.out.below b4
      clear b4 HR
      go_wp2_with fail
      refine (C2 _).mono ?_; rintro e W5 ⟨rfl, b5⟩
      have D5 := (H4.out.below b5).set (by omega) (kS ⟨#[120]⟩) (kI 1) (by constructor <;> simp)
      unfold vv vl tp at D5
      clear b5 H4
      go_wp2_with fail
      refine D5.mono ?_; rintro e W6 ⟨rfl, h6⟩
      have H6 : Hid (FSt w T S w.heap.size (3 + 7 * 4 + 7) fz5 W6) := h6
      clear D5 h6
      go_wp2_with fail
      refine (C3 _).mono ?_; rintro e W7 ⟨rfl, b7⟩
      have H7 : Hid (FSt w T S w.heap.size (3 + 7 * 4 + 7) fz5 W7) := H6.out.below b7
      clear b7 H6
      go_wp2_with fail
      refine (C4 _).mono ?_; rintro e W8 ⟨rfl, b8⟩
      have D8 := (H7.out.below b8).set (by omega) (kS ⟨#[121]⟩) (kI 2) (by constructor <;> simp)
      unfold vv vl tp at D8
      clear b8 H7 C1 C2 C3 C4
      go_wp2_with fail
      refine D8.mono ?_; rintro e W9 ⟨rfl, h9⟩
      have H9 : Hid (FSt w T S w.heap.size 45 fz6 W9) := h9
      have CT := H9.out.stats
      clear D8 h9
      generalize (nxs fz5 (kS ⟨#[121]⟩) (kI 2)).2.2 = u1
      generalize (nxs (fza 4) (kS ⟨#[120]⟩) (kI 1)).2.2 = u2
      unfold ts sv tp at CT
      rw [fz6n.1, fz6n.2.1, fz6n.2.2.1] at CT
      have HG : Hid (∀ W, FSt w T S w.heap.size 45 fz6 W → Calls Try.prog 10 #[.pointer (some ⟨T, 0, none⟩), .agg #[.int .i64 2, .int .i64 3, .string ⟨#[]⟩]] W fun e w' => e = .returned (.agg #[.int .i64 3, .int .i64 0, .string ⟨#[97]⟩]) ∧ FSt w T S w.heap.size 46 ({ fz6.1 with pr := fz6.1.pr + (prd fz6.1.p (kI 3) : Nat) }, fz6.2.1, fz6.2.2) w') := fun W hW => by
        have h0 := hW.get (by omega) (kI 3) (by constructor <;> simp)
        rw [fz6g.1] at h0
        exact h0
      have HG2 : Hid (∀ W, FSt w T S w.heap.size 46 ({ fz6.1 with pr := fz6.1.pr + (prd fz6.1.p (kI 3) : Nat) }, fz6.2.1, fz6.2.2) W → Calls Try.prog 10 #[.pointer (some ⟨T, 0, none⟩), .agg #[.int .i64 3, .int .i64 0, .string ⟨#[120]⟩]] W fun e w' => e = .returned (.agg #[.int .i64 2, .int .i64 1, .string ⟨#[]⟩]) ∧ ∃ q, FSt w T S w.heap.size 47 q w' ∧ q.2.1.live = 14) := fun W hW => by
        have h0 := hW.get (by omega) (kS ⟨#[120]⟩) (by constructor <;> simp)
        have e0 : pget ({ fz6.1 with pr := fz6.1.pr + (prd fz6.1.p (kI 3) : Nat) } : TS).p (kS ⟨#[120]⟩) = kI 1 := fz6g.2
        rw [e0] at h0
        refine h0.mono ?_
        rintro e w' ⟨rfl, h1⟩
        exact ⟨rfl, _, h1, fz6n.2.2.2⟩
      have HST : Hid (∀ W, FSt w T S w.heap.size 45 fz6 W → Calls Try.prog 11 #[.pointer (some ⟨T, 0, none⟩)] W fun e w' => e = .returned (.agg #[.int .i64 4, .int .i64 2, .int .i64 (fz6.1.p.g.f : Nat), .int .i64 0]) ∧ FSt w T S w.heap.size 45 fz6 w') := fun W hW => by
        have h0 := hW.stats
        unfold ts sv at h0
        rw [fz6n.1, fz6n.2.1, fz6n.2.2.1] at h0
        exact h0
      have Q1 := fun W => eql42 4 2 (fz6.1.p.g.f : Nat) 0 4 2 (fz6.1.p.g.f : Nat) 0 W
      unfold sv at Q1
      rw [decide_eq_true ⟨rfl, rfl, rfl, rfl⟩] at Q1
      have CI3 := fun W => mkI 3 W
      have CSa := fun W => mkS ⟨#[97]⟩ W
      have CSx := fun W => mkS ⟨#[120]⟩ W
      have CI1 := fun W => mkI 1 W
      have Q2 := fun W => eql32 3 0 3 0 ⟨#[97]⟩ ⟨#[97]⟩ W
      have Q3 := fun W => eql32 2 1 2 1 ⟨#[]⟩ ⟨#[]⟩ W
      unfold vl at CI3 CSa CSx CI1 Q2 Q3
      rw [decide_eq_true rfl] at Q2 Q3
      clear CT
      generalize (fz6.1.p.g.f : Nat) = ff at *
      go_wp2_with fail
      refine (HST.out W9 H9.out).mono ?_; rintro e W10 ⟨rfl, h10⟩
      have H10 : Hid (FSt w T S w.heap.size 45 fz6 W10) := h10
      clear h10 H9
      go_wp2_with fail
      refine (HST.out W10 H10.out).mono ?_; rintro e W11 ⟨rfl, h11⟩
      have H11 : Hid (FSt w T S w.heap.size 45 fz6 W11) := h11
      clear h11 H10
      have F2 := fun W => fld2 4 2 ff 0 W
      unfold sv at F2
      go_wp2_with fail
      refine (CI3 _).mono ?_; rintro e W12 ⟨rfl, b12⟩
      have D12 := HG.out W12 (H11.out.below b12)
      clear b12 CI3
      go_wp2_with fail
      refine D12.mono ?_; rintro e W13 ⟨rfl, h13⟩
      have H13 : Hid _ := h13
      clear D12 H11
      go_wp2_with fail
      refine (CSa _).mono ?_; rintro e W14 ⟨rfl, b14⟩
      have h14 := h13.below b14
      have HH14 : Hid (∀ W, Below W14.heap.size W14 W → FSt w T S w.heap.size 46 ({ fz6.1 with pr := fz6.1.pr + (prd fz6.1.p (kI 3) : Nat) }, fz6.2.1, fz6.2.2) W) := fun W hW => h14.below hW
      clear b14 CSa h13 H13 h14
      go_wp2_with fail
      refine (CSx _).mono ?_; rintro e W15 ⟨rfl, b15⟩
      have D15 := HG2.out W15 (HH14.out W15 b15)
      clear b15 CSx
      go_wp2_with fail
      refine D15.mono ?_; rintro e W16 ⟨rfl, q, h16, hl⟩
      have H16 : Hid (FSt w T S w.heap.size 47 q W16 ∧ q.2.1.live = 14) := ⟨h16, hl⟩
      clear D15 h16 hl
      go_wp2_with fail
      refine (CI1 _).mono ?_; rintro e W17 ⟨rfl, b17⟩
      have h17 := H16.out.1.below b17
      have CL := h17.live
      unfold tp at CL
      rw [H16.out.2] at CL
      have HB17 : Hid (Below w.heap.size w W17) := h17.2
      clear b17 CI1 h17 H16
      go_wp2_with fail
      refine CL.mono ?_; rintro e W18 ⟨rfl, hw18⟩; rw [hw18]; clear hw18 CL
      go_wp2_with fail
      go_ret
      exact ⟨rfl, HB17.out⟩
end Go.Proofs.Ytonopchpnhninaa
