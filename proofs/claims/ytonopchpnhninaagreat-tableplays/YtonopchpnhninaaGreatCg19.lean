/- The walk of begin: both heaps, both tables. -/
import Derived.Test.YtonopchpnhninaaGreatCg18
namespace Go.Proofs.YtonopchpnhninaaGreat
open Go.RowKit

theorem new_hp (w : World) (n : Int) (No : Nat → Prop) (hn : ∀ g, No g → g < w.heap.size) : H.Hp No ((w.alloc (.map #[] 0)).alloc (.cells #[.int .i64 n, .int .i64 0, .int .i64 0, .slice none 0 0, .map (some w.heap.size)] 93)) (w.heap.size + 1) w.heap.size 0 (.slice none 0 0) (H.newSt n) := by
  have e : (w.alloc (.map #[] 0)).heap.size = w.heap.size + 1 := by simp
  have hs := (MapKept.heap_alloc (w.alloc (.map #[] 0)) (.cells #[.int .i64 n, .int .i64 0, .int .i64 0, .slice none 0 0, .map (some w.heap.size)] 93)).1
  rw [e] at hs
  refine ⟨hs, World.ownsRow_nil _ _ _ _, (H.Rdy.made No w).alloc _, Nat.le_refl _, fun q => ?_, fun q => ?_, fun g e => (by cases e), fun g q => ?_⟩
  · have := hn _ q; omega
  · have := hn _ q; omega
  · have := hn _ q; simp; omega
theorem new_rh (w : World) (n : Int) (No : Nat → Prop) (hn : ∀ g, No g → g < w.heap.size) : RH No (w.alloc (.cells #[.int .i64 n, .int .i64 0, .int .i64 0, .slice none 0 0] 73)) w.heap.size 0 (H.newSt n) := by
  refine ⟨.slice none 0 0, ⟨n, 0, 0, []⟩, ⟨(MapKept.heap_alloc w _).1, World.ownsRow_nil _ _ _ _, Nat.le_refl _, fun q => ?_, fun g e => (by cases e), fun g q => ?_⟩, H.Sim.new n, Int.le_refl _⟩
  · have := hn _ q; omega
  · have := hn _ q; simp; omega
theorem TT.frame2 {No : Nat → Prop} {w w' : World} {T A b a S hb c : Nat} {t : TS} {s : H.St} (h : TT No w T A b a S hb c t s) (hos : w'.os = w.os) (ht : w'.tape = w.tape) (ho : w'.output = w.output) (hs : w.heap.size ≤ w'.heap.size) (hk : ∀ g, g < w.heap.size → ¬ No g → w'.heap[g]? = w.heap[g]?) :
    TT (fun g => No g ∨ (w.heap.size ≤ g ∧ g < w'.heap.size)) w' T A b a S hb c t s := by
  obtain ⟨vb, hp⟩ := h.hp
  have l1 := h.tm.pm.ltA
  have l2 := h.tm.pm.ltB
  have l3 := h.tm.pm.pt.lta
  have l4 := h.tm.pm.pt.ltb
  have k : Keep (fun g => ¬ No g) w w' := ⟨hos, ht, ho, hs, hk⟩
  refine ⟨h.tm.kept k h.nT h.nA h.nb h.na, ⟨vb, Hp.sub (Hp.frame2 hp hos ht ho hs (fun g hg hn => hk g hg (fun q => hn (.inl q)))) (fun g q => ?_)⟩, fun q => q.elim h.nT (by omega), fun q => q.elim h.nA (by omega), fun q => q.elim h.nb (by omega), fun q => q.elim h.na (by omega), h.ti, h.iv, h.p0, h.p1⟩
  rcases q with (q | q) | q
  · exact .inl (.inl q)
  · exact .inr q
  · exact .inl (.inr q)

/-- What New comes to. -/
def inP (x : Int) : Prop := 0 ≤ x ∧ x ≤ 65536
instance (x : Int) : Decidable (inP x) := inferInstanceAs (Decidable (_ ∧ _))
def nE (s : H.St) (x y : Int) : Int := if ¬ (inP x ∧ inP y) then 1 else if H.takeE s 4 ≠ 0 then H.takeE s 4 else tpE (H.takeSt s 4) x (C.up2 y)
def nS (s : H.St) (x y : Int) : H.St := if ¬ (inP x ∧ inP y) then s else if H.takeE s 4 ≠ 0 then s else if tpE (H.takeSt s 4) x (C.up2 y) ≠ 0 then H.giveSt (tpS (H.takeSt s 4) x (C.up2 y)) (H.takeId s 4) else tpS (H.takeSt s 4) x (C.up2 y)
theorem nS_inv {s : H.St} (iv : H.Inv 0 s) (x y : Int) : H.Inv 0 (nS s x y) := by
  unfold nS
  split
  · exact iv
  · split
    · exact iv
    · split
      · exact (tp_inv (iv.take 4) _ _).give _
      · exact tp_inv (iv.take 4) _ _
theorem inP.nat {x : Int} (h : inP x) : ∃ n : Nat, x = n ∧ n ≤ 65536 := ⟨x.toNat, by have := h.1; omega, by have := h.1; have := h.2; omega⟩
theorem nE_arg {s : H.St} {x y : Int} (hp : ¬ (inP x ∧ inP y)) : nE s x y = 1 ∧ nS s x y = s := ⟨by unfold nE; rw [if_pos hp], by unfold nS; rw [if_pos hp]⟩
theorem nE_four {s : H.St} {x y : Int} (hp : inP x ∧ inP y) (h4 : H.takeE s 4 ≠ 0) : nE s x y = H.takeE s 4 ∧ nS s x y = s := by
  have hp' : ¬ ¬ (inP x ∧ inP y) := fun q => q hp
  exact ⟨by unfold nE; rw [if_neg hp', if_pos h4], by unfold nS; rw [if_neg hp', if_pos h4]⟩
theorem nE_rest {s : H.St} {x y : Int} (hp : inP x ∧ inP y) (h4 : H.takeE s 4 = 0) : nE s x y = tpE (H.takeSt s 4) x (C.up2 y) ∧ nS s x y = (if tpE (H.takeSt s 4) x (C.up2 y) ≠ 0 then H.giveSt (tpS (H.takeSt s 4) x (C.up2 y)) (H.takeId s 4) else tpS (H.takeSt s 4) x (C.up2 y)) := by
  have hp' : ¬ ¬ (inP x ∧ inP y) := fun q => q hp
  have h4' : ¬ H.takeE s 4 ≠ 0 := fun q => q h4
  exact ⟨by unfold nE; rw [if_neg hp', if_neg h4'], by unfold nS; rw [if_neg hp', if_neg h4']⟩
theorem tpE_one {s : H.St} {n z : Int} (q : H.takeE s n ≠ 0) : tpE s n z = H.takeE s n ∧ tpS s n z = s := ⟨by unfold tpE; rw [if_pos q], by unfold tpS; rw [if_pos q]⟩
theorem tpE_two {s : H.St} {n z : Int} (q : H.takeE s n = 0) : tpE s n z = H.takeE (H.takeSt s n) (3 * z) ∧ tpS s n z = if H.takeE (H.takeSt s n) (3 * z) ≠ 0 then H.giveSt (H.takeSt s n) (H.takeId s n) else H.takeSt (H.takeSt s n) (3 * z) := by
  have q' : ¬ H.takeE s n ≠ 0 := fun h => h q
  exact ⟨by unfold tpE; rw [if_neg q'], by unfold tpS; rw [if_neg q']⟩
theorem new_fail {No : Nat → Prop} {w : World} {S hb c : Nat} {vb : Value} {s : H.St} (h : H.Hp No w S hb c vb s) (hc : c ≤ 700000) (iv : H.Inv 0 s) (x y : Int) (he : nE s x y ≠ 0) :
    Calls Tryz.prog 33 #[.pointer (some ⟨S, 0, none⟩), .int .i64 x, .int .i64 y] w fun e w' => e = .returned (.tuple #[.pointer none, .int .i64 (nE s x y)]) ∧ (∃ v', H.Hp No w' S hb (c + 5) v' (nS s x y)) ∧ Keep No w w' := by
  by_cases hp : inP x ∧ inP y
  · by_cases h4 : H.takeE s 4 = 0
    · obtain ⟨e1, e2⟩ := nE_rest hp h4
      rw [e1] at he
      rw [e1, e2, if_pos he]
      obtain ⟨n, rfl, hn⟩ := hp.1.nat
      obtain ⟨m, rfl, hm⟩ := hp.2.nat
      obtain ⟨z, hz, hz2, _⟩ := up2_rt (m : Nat) (by omega) (by omega)
      rw [hz] at he ⊢
      exact new_parts h hc iv n m z hn hm hz hz2.le h4 he
    · obtain ⟨e1, e2⟩ := nE_four hp h4
      rw [e1, e2]
      obtain ⟨n, rfl, hn⟩ := hp.1.nat
      obtain ⟨m, rfl, hm⟩ := hp.2.nat
      refine (new_cells h hc iv n m hn hm h4).mono ?_
      rintro e w' ⟨rfl, ⟨v', hp'⟩, kk⟩
      exact ⟨rfl, ⟨v', hp'.more (by omega)⟩, kk⟩
  · obtain ⟨e1, e2⟩ := nE_arg (s := s) hp
    rw [e1, e2]
    refine (new_arg w _ (.inr ⟨S, rfl⟩) x y (.inr ?_)).mono ?_
    · by_cases q : inP x
      · exact .inr fun q2 => hp ⟨q, q2⟩
      · exact .inl q
    · rintro e w' ⟨rfl, rfl⟩
      exact ⟨rfl, ⟨vb, h.more (by omega)⟩, Keep.refl _ _⟩
theorem rnew_fail {No : Nat → Prop} {w : World} {S c : Nat} {s : H.St} (h : RH No w S c s) (hc : c ≤ 700000) (iv : H.Inv 0 s) (x y : Int) (he : nE s x y ≠ 0) :
    Calls Tryz.prog 34 #[.pointer (some ⟨S, 0, none⟩), .int .i64 x, .int .i64 y] w fun e w' => e = .returned (.tuple #[.pointer none, .int .i64 (nE s x y)]) ∧ RH No w' S (c + 5) (nS s x y) ∧ Keep No w w' := by
  by_cases hp : inP x ∧ inP y
  · by_cases h4 : H.takeE s 4 = 0
    · obtain ⟨e1, e2⟩ := nE_rest hp h4
      rw [e1] at he
      rw [e1, e2, if_pos he]
      obtain ⟨n, rfl, hn⟩ := hp.1.nat
      obtain ⟨m, rfl, hm⟩ := hp.2.nat
      obtain ⟨z, hz, hz2, _⟩ := up2_rt (m : Nat) (by omega) (by omega)
      rw [hz] at he ⊢
      by_cases q : H.takeE (H.takeSt s 4) (n : Nat) = 0
      · obtain ⟨e3, e4⟩ := tpE_two (z := (z : Nat)) q
        rw [e3] at he
        rw [e3, e4, if_pos he]
        exact rnew_two h hc iv n m z hn hm hz hz2.le h4 q he
      · obtain ⟨e3, e4⟩ := tpE_one (z := (z : Nat)) q
        rw [e3, e4]
        refine (rnew_one h hc iv n m hn hm h4 q).mono ?_
        rintro e w' ⟨rfl, hp', kk⟩
        exact ⟨rfl, hp'.more (by omega), kk⟩
    · obtain ⟨e1, e2⟩ := nE_four hp h4
      rw [e1, e2]
      obtain ⟨n, rfl, hn⟩ := hp.1.nat
      obtain ⟨m, rfl, hm⟩ := hp.2.nat
      refine (rnew_cells h hc iv n m hn hm h4).mono ?_
      rintro e w' ⟨rfl, hp', kk⟩
      exact ⟨rfl, hp'.more (by omega), kk⟩
  · obtain ⟨e1, e2⟩ := nE_arg (s := s) hp
    rw [e1, e2]
    refine (rnew_arg w S x y ?_).mono ?_
    · by_cases q : inP x
      · exact .inr fun q2 => hp ⟨q, q2⟩
      · exact .inl q
    · rintro e w' ⟨rfl, rfl⟩
      exact ⟨rfl, h.more (by omega), Keep.refl _ _⟩
/-- What it takes that New succeeds. -/
structure Okn (s : H.St) (x y : Int) (n z : Nat) : Prop where
  ex : x = n
  hn : n ≤ 65536
  hy : ∃ m : Nat, y = m ∧ m ≤ 65536 ∧ C.up2 (m : Nat) = (z : Nat)
  hz : Rt z
  e1 : H.takeE s 4 = 0
  e2 : H.takeE (H.takeSt s 4) (n : Nat) = 0
  e3 : H.takeE (H.takeSt (H.takeSt s 4) (n : Nat)) (3 * (z : Nat)) = 0
  es : nS s x y = H.takeSt (H.takeSt (H.takeSt s 4) (n : Nat)) (3 * (z : Nat))
theorem okn {s : H.St} {x y : Int} (he : nE s x y = 0) : ∃ n z, Okn s x y n z := by
  by_cases hp : inP x ∧ inP y
  · by_cases h4 : H.takeE s 4 = 0
    · obtain ⟨e1, e2⟩ := nE_rest hp h4
      rw [e1] at he
      rw [if_neg (fun q => q he)] at e2
      obtain ⟨n, rfl, hn⟩ := hp.1.nat
      obtain ⟨m, rfl, hm⟩ := hp.2.nat
      obtain ⟨z, hz, hz2, _⟩ := up2_rt (m : Nat) (by omega) (by omega)
      rw [hz] at he e2
      by_cases q : H.takeE (H.takeSt s 4) (n : Nat) = 0
      · obtain ⟨e3, e4⟩ := tpE_two (z := (z : Nat)) q
        rw [e3] at he
        rw [if_neg (fun q => q he)] at e4
        exact ⟨n, z, rfl, hn, ⟨m, rfl, hm, hz⟩, hz2, h4, q, he, e2.trans e4⟩
      · rw [(tpE_one (z := (z : Nat)) q).1] at he; exact absurd he q
    · rw [(nE_four hp h4).1] at he; exact absurd he h4
  · rw [(nE_arg hp).1] at he; cases he

abbrev cv (l x y : Int) (v : Value) : Value := .agg #[.int .i64 l, .int .i64 x, .int .i64 y, v]
set_option maxRecDepth 20000 in
set_option maxHeartbeats 2000000 in
theorem begin_lim (l x y : Int) (a : Option Addr) (n cap : Nat) (w : World) (hl : l < 0 ∨ 400000 < l) :
    Calls Tryz.prog 8 #[cv l x y (.slice a n cap)] w fun e w' => e = .returned (.tuple #[.pointer none, .pointer none, .pointer none, .bool true]) ∧ Below w.heap.size w w' := by
  have C1 := fun W => H.new_bad W l hl
  have C2 := fun W => new_arg W (.pointer none) (.inl rfl) 0 0 (.inl rfl)
  unfold cv
  have HB : Hid _ := b1 w (.cells #[.int .i64 l, .int .i64 x, .int .i64 y, .slice a n cap] 24)
  rcases hl with hl | hl
  · go_enter Tryz.func8, Tryz.ntmps8
    go_wp2_with fail
    refine (C1 _).mono ?_; rintro e w1 ⟨rfl, hw1⟩; rw [hw1]; clear hw1
    go_wp2_with fail
    refine (C2 _).mono ?_; rintro e w1 ⟨rfl, hw1⟩; rw [hw1]; clear hw1
    go_wp2_with fail
    go_quiet (fail)
    go_wp2_with fail
    refine bodyPost_ret (v := .tuple #[.pointer none, .pointer none, .pointer none, .bool true]) (by simp [results, Tryz.results8, go_sem]) rfl ⟨rfl, bthen HB.out HB.out.size (bdrew _ _ _)⟩
  · have hl0 : ¬ l < 0 := by omega
    go_enter Tryz.func8, Tryz.ntmps8
    go_wp2_with fail
    refine (C1 _).mono ?_; rintro e w1 ⟨rfl, hw1⟩; rw [hw1]; clear hw1
    go_wp2_with fail
    refine (C2 _).mono ?_; rintro e w1 ⟨rfl, hw1⟩; rw [hw1]; clear hw1
    go_wp2_with fail
    go_quiet (fail)
    go_wp2_with fail
    refine bodyPost_ret (v := .tuple #[.pointer none, .pointer none, .pointer none, .bool true]) (by simp [results, Tryz.results8, go_sem]) rfl ⟨rfl, bthen HB.out HB.out.size (bdrew _ _ _)⟩

set_option maxRecDepth 20000 in
set_option maxHeartbeats 4000000 in
theorem begin_fail (l x y : Int) (a : Option Addr) (n cap : Nat) (w : World) (h0 : 0 ≤ l) (h1 : l ≤ 400000) (he : nE (H.newSt l) x y ≠ 0) :
    Calls Tryz.prog 8 #[cv l x y (.slice a n cap)] w fun e w' => ∃ S, e = .returned (.tuple #[.pointer none, .pointer (some ⟨S, 0, none⟩), .pointer none, .bool true]) ∧ Below w.heap.size w w' := by
  have iv := H.Inv.new l h0 h1
  have C1 := fun W => H.new_walk W l h0 h1
  have B0 := b1 w (.cells #[.int .i64 l, .int .i64 x, .int .i64 y, .slice a n cap] 24)
  have c0 : (w.alloc (.cells #[.int .i64 l, .int .i64 x, .int .i64 y, .slice a n cap] 24)).heap[w.heap.size]? = some (.cells #[.int .i64 l, .int .i64 x, .int .i64 y, .slice a n cap] 24) := (MapKept.heap_alloc w _).1
  have e0 : (w.alloc (.cells #[.int .i64 l, .int .i64 x, .int .i64 y, .slice a n cap] 24)).heap.size = w.heap.size + 1 := by simp
  obtain ⟨W0, hW0⟩ : ∃ W0, w.alloc (.cells #[.int .i64 l, .int .i64 x, .int .i64 y, .slice a n cap] 24) = W0 := ⟨_, rfl⟩
  rw [hW0] at B0 c0 e0
  have hp := new_hp W0 l (fun g => g < W0.heap.size) (fun g q => q)
  have B1 := b2 W0 (.map #[] 0) (.cells #[.int .i64 l, .int .i64 0, .int .i64 0, .slice none 0 0, .map (some W0.heap.size)] 93)
  have C1' := C1 W0
  obtain ⟨W1, hW1⟩ : ∃ W1, (W0.alloc (.map #[] 0)).alloc (.cells #[.int .i64 l, .int .i64 0, .int .i64 0, .slice none 0 0, .map (some W0.heap.size)] 93) = W1 := ⟨_, rfl⟩
  rw [hW1] at hp B1 C1'
  have C2 := new_fail hp (by omega) iv x y he
  have HKc : Hid (∀ W, Keep (fun g => g < W0.heap.size) W1 W → W.heap[w.heap.size]? = some (.cells #[.int .i64 l, .int .i64 x, .int .i64 y, .slice a n cap] 24) ∧ Below w.heap.size w W) := fun W k => by
    have l0 : w.heap.size < W1.heap.size := by have := B1.size; omega
    refine ⟨(k.block _ l0 (by show _ < _; omega)).trans ((B1.block _ (by omega)).trans c0), ?_⟩
    exact bthen B0 B0.size (B1.trans (k.below (by have := B1.size; omega) (fun g hg => hg)))
  have HC3 : Hid (∀ W : World, RH (fun g => g < W.heap.size) (W.alloc (.cells #[.int .i64 l, .int .i64 0, .int .i64 0, .slice none 0 0] 73)) W.heap.size 0 (H.newSt l)) := fun W => new_rh W l _ (fun g q => q)
  have hx0 := HKc.out W1 (Keep.refl _ _)
  have x0 : W1.cell? ⟨w.heap.size, 0, none⟩ = some (.int .i64 l) := cell_of_row hx0.1 0
  have x1 : W1.cell? ⟨w.heap.size, 1, none⟩ = some (.int .i64 x) := cell_of_row hx0.1 1
  have x2 : W1.cell? ⟨w.heap.size, 2, none⟩ = some (.int .i64 y) := cell_of_row hx0.1 2
  have y0 : W0.cell? ⟨w.heap.size, 0, none⟩ = some (.int .i64 l) := cell_of_row c0 0
  have HE : Hid (nE (H.newSt l) x y ≠ 0) := he
  have HIv : Hid (H.Inv 0 (H.newSt l)) := iv
  have HS1 : Hid (H.Inv 0 (nS (H.newSt l) x y)) := nS_inv iv x y
  generalize hS : W0.heap.size + 1 = S at *
  have HSe : Hid (W0.heap.size + 1 = S) := hS
  clear B0 B1 c0 C1 hp iv hx0
  unfold cv
  go_enter Tryz.func8, Tryz.ntmps8
  go_wp2_with fail
  refine C1'.mono ?_; rintro e w1 ⟨rfl, hw1⟩; rw [hw1]; clear hw1 C1'
  go_wp2_with fail
  refine C2.mono ?_; rintro e W2 ⟨rfl, ⟨v2, hp2⟩, kk2⟩
  have hx2 := HKc.out W2 kk2
  have hS2 := hp2.str
  have hiv := HS1.out
  have B3 := b1 W2 (.cells #[.int .i64 l, .int .i64 0, .int .i64 0, .slice none 0 0] 73)
  have rh := HC3.out W2
  obtain ⟨W3, hW3⟩ : ∃ W3, W2.alloc (.cells #[.int .i64 l, .int .i64 0, .int .i64 0, .slice none 0 0] 73) = W3 := ⟨_, rfl⟩
  rw [hW3] at B3 rh
  have C4 := rnew_fail rh (by omega) HIv.out x y HE.out
  have z0 : W2.cell? ⟨w.heap.size, 0, none⟩ = some (.int .i64 l) := cell_of_row hx2.1 0
  have hl2 : w.heap.size < W2.heap.size := (Array.getElem?_eq_some_iff.1 hx2.1).1
  have hx3 := (B3.block _ hl2).trans hx2.1
  have z1 : W3.cell? ⟨w.heap.size, 1, none⟩ = some (.int .i64 x) := cell_of_row hx3 1
  have z2 : W3.cell? ⟨w.heap.size, 2, none⟩ = some (.int .i64 y) := cell_of_row hx3 2
  have hlS : S < W2.heap.size := (Array.getElem?_eq_some_iff.1 hS2).1
  have HS3 : Hid (∀ W, Keep (fun g => g < W2.heap.size) W3 W → W.heap[S]? = some (.cells #[.int .i64 (nS (H.newSt l) x y).lim, .int .i64 (nS (H.newSt l) x y).live, .int .i64 (nS (H.newSt l) x y).laid, v2, .map (some W0.heap.size)] 93 (0, 0)) ∧ Below w.heap.size w W) := fun W k =>
    ⟨(k.block S (by have := B3.size; omega) hlS).trans ((B3.block S hlS).trans hS2), hx2.2.trans ((B3.mono (by omega)).trans ((k.below (by have := B3.size; omega) (fun g hg => hg)).mono (by omega)))⟩
  generalize hG : W2.heap.size = G at *
  clear C2 hp2 kk2 hx2 hS2 rh B3 hx3 x0 x1 x2 y0
  go_wp2_with fail
  refine C4.mono ?_; rintro e W4 ⟨rfl, rh4, kk4⟩
  have hs4 := HS3.out W4 kk4
  have C5 : Calls Tryz.prog 19 #[.pointer (some ⟨S, 0, none⟩)] W4 fun e w' => e = .returned (.int .i64 (nS (H.newSt l) x y).live) ∧ w' = W4 := H.live_any _ S _ (H.cell_row hs4.1 1)
  have C6 : Calls Tryz.prog 21 #[.pointer (some ⟨S, 0, none⟩)] W4 fun e w' => e = .returned (.int .i64 (nS (H.newSt l) x y).laid) ∧ w' = W4 := H.laid_any _ S _ (H.cell_row hs4.1 2)
  have C7 : Calls Tryz.prog 20 #[.pointer (some ⟨G, 0, none⟩)] W4 fun e w' => e = .returned (.int .i64 (nS (H.newSt l) x y).live) ∧ w' = W4 := rlv_any rh4 (by omega) hiv
  have C8 : Calls Tryz.prog 22 #[.pointer (some ⟨G, 0, none⟩)] W4 fun e w' => e = .returned (.int .i64 (nS (H.newSt l) x y).laid) ∧ w' = W4 := rld_any rh4 (by omega) hiv
  have HB4 : Hid (Below w.heap.size w W4) := hs4.2
  clear C4 rh4 kk4 hs4 HS3 z0 z1 z2 hiv
  generalize nE (H.newSt l) x y = E at *
  generalize (nS (H.newSt l) x y).live = lv at *
  generalize (nS (H.newSt l) x y).laid = ld at *
  go_wp2_with fail
  refine C5.mono ?_; rintro e w5 ⟨rfl, hw5⟩; rw [hw5]; clear hw5 C5
  go_wp2_with fail
  refine C7.mono ?_; rintro e w5 ⟨rfl, hw5⟩; rw [hw5]; clear hw5 C7
  go_wp2_with fail
  refine C6.mono ?_; rintro e w5 ⟨rfl, hw5⟩; rw [hw5]; clear hw5 C6
  go_wp2_with fail
  refine C8.mono ?_; rintro e w5 ⟨rfl, hw5⟩; rw [hw5]; clear hw5 C8
  go_wp2_with fail
  refine bodyPost_ret (v := .tuple #[.pointer none, .pointer (some ⟨S, 0, none⟩), .pointer none, .bool true]) (by simp [results, Tryz.results8, go_sem]) rfl ⟨S, rfl, HB4.out⟩
end Go.Proofs.YtonopchpnhninaaGreat

/- The walk of begin, on: both tables. -/
namespace Go.Proofs.YtonopchpnhninaaGreat
open Go.RowKit

theorem Okn.new {No : Nat → Prop} {w : World} {S hb c n z : Nat} {vb : Value} {s : H.St} {x y : Int} (o : Okn s x y n z) (h : H.Hp No w S hb c vb s) (hc : c ≤ 700000) (iv : H.Inv 0 s) :
    Calls Tryz.prog 33 #[.pointer (some ⟨S, 0, none⟩), .int .i64 x, .int .i64 y] w fun e w' => ∃ T A b a, e = .returned (.tuple #[.pointer (some ⟨T, 0, none⟩), .int .i64 0]) ∧ TT No w' T A b a S hb (c + 3) (newT n z (H.takeId (H.takeSt s 4) (n : Nat)) (H.takeId (H.takeSt (H.takeSt s 4) (n : Nat)) (3 * (z : Nat)))) (nS s x y) ∧ Keep No w w' := by
  obtain ⟨m, rfl, hm, hz⟩ := o.hy
  obtain ⟨e3, e4⟩ := tpE_two (z := (z : Nat)) o.e2
  rw [if_neg (fun q => q o.e3)] at e4
  rw [o.es, ← e4, o.ex]
  exact new_good h hc iv n m z o.hn hm hz o.hz o.e1 (e3.trans o.e3)
theorem Okn.rnew {No : Nat → Prop} {w : World} {S c n z : Nat} {s : H.St} {x y : Int} (o : Okn s x y n z) (h : RH No w S c s) (hc : c ≤ 700000) (iv : H.Inv 0 s) :
    Calls Tryz.prog 34 #[.pointer (some ⟨S, 0, none⟩), .int .i64 x, .int .i64 y] w fun e w' => ∃ RT A P ka va ca, e = .returned (.tuple #[.pointer (some ⟨RT, 0, none⟩), .int .i64 0]) ∧ RH (fun g => No g ∨ g = RT ∨ g = A ∨ g = P ∨ g = ka ∨ g = va ∨ g = ca) w' S (c + 3) (nS s x y) ∧ Keep No w w' ∧
      Nr w w' n z RT A P ka va ca S (H.takeId (H.takeSt s 4) (n : Nat)) (H.takeId (H.takeSt (H.takeSt s 4) (n : Nat)) (3 * (z : Nat))) := by
  obtain ⟨m, rfl, hm, hz⟩ := o.hy
  rw [o.es, o.ex]
  exact rnew_good h hc iv n m z o.hn hm hz o.hz.le o.e1 o.e2 o.e3
/-- Both tables behind begin: the program's blocks lie below M, the reference's from M on. -/
structure Bgn (w w' : World) (M T A b a S hb RT RA P ka va ca G n z : Nat) (t : TS) (s : H.St) : Prop where
  tt : TT (fun g => g < w.heap.size ∨ (M ≤ g ∧ g < w'.heap.size)) w' T A b a S hb 3 t s
  rh : RH (fun g => g < M ∨ g = RT ∨ g = RA ∨ g = P ∨ g = ka ∨ g = va ∨ g = ca) w' G 3 s
  nr : ∃ W, M ≤ W.heap.size ∧ Nr W w' n z RT RA P ka va ca G t.sb t.nb
  bel : Below w.heap.size w w'
  le : w.heap.size ≤ M
  iv : H.Inv 0 s
  et : t = newT n z t.sb t.nb
  rt : Rt z
  en : n ≤ 65536
set_option maxRecDepth 20000 in
set_option maxHeartbeats 4000000 in
theorem begin_ok (l x y : Int) (a : Option Addr) (n cap : Nat) (w : World) (h0 : 0 ≤ l) (h1 : l ≤ 400000) (he : nE (H.newSt l) x y = 0) :
    Calls Tryz.prog 8 #[cv l x y (.slice a n cap)] w fun e w' => ∃ M T A b a' S hb RT RA P ka va ca G n' z t, e = .returned (.tuple #[tp T, tp S, tp RT, .bool true]) ∧ Bgn w w' M T A b a' S hb RT RA P ka va ca G n' z t (nS (H.newSt l) x y) ∧ Okn (H.newSt l) x y n' z ∧ t.sb = H.takeId (H.takeSt (H.newSt l) 4) (n' : Nat) ∧ t.nb = H.takeId (H.takeSt (H.takeSt (H.newSt l) 4) (n' : Nat)) (3 * (z : Nat)) := by
  have iv := H.Inv.new l h0 h1
  have C1 := fun W => H.new_walk W l h0 h1
  have B0 := b1 w (.cells #[.int .i64 l, .int .i64 x, .int .i64 y, .slice a n cap] 24)
  have c0 : (w.alloc (.cells #[.int .i64 l, .int .i64 x, .int .i64 y, .slice a n cap] 24)).heap[w.heap.size]? = some (.cells #[.int .i64 l, .int .i64 x, .int .i64 y, .slice a n cap] 24) := (MapKept.heap_alloc w _).1
  have e0 : (w.alloc (.cells #[.int .i64 l, .int .i64 x, .int .i64 y, .slice a n cap] 24)).heap.size = w.heap.size + 1 := by simp
  obtain ⟨W0, hW0⟩ : ∃ W0, w.alloc (.cells #[.int .i64 l, .int .i64 x, .int .i64 y, .slice a n cap] 24) = W0 := ⟨_, rfl⟩
  rw [hW0] at B0 c0 e0
  have hp := new_hp W0 l (fun g => g < W0.heap.size) (fun g q => q)
  have B1 := b2 W0 (.map #[] 0) (.cells #[.int .i64 l, .int .i64 0, .int .i64 0, .slice none 0 0, .map (some W0.heap.size)] 93)
  have C1' := C1 W0
  obtain ⟨W1, hW1⟩ : ∃ W1, (W0.alloc (.map #[] 0)).alloc (.cells #[.int .i64 l, .int .i64 0, .int .i64 0, .slice none 0 0, .map (some W0.heap.size)] 93) = W1 := ⟨_, rfl⟩
  rw [hW1] at hp B1 C1'
  obtain ⟨n', z, hok⟩ := okn he
  have C2 := hok.new hp (by omega) iv
  have HKc : Hid (∀ W, Keep (fun g => g < W0.heap.size) W1 W → W.heap[w.heap.size]? = some (.cells #[.int .i64 l, .int .i64 x, .int .i64 y, .slice a n cap] 24) ∧ Below w.heap.size w W) := fun W k => by
    have l0 : w.heap.size < W1.heap.size := by have := B1.size; omega
    refine ⟨(k.block _ l0 (by show _ < _; omega)).trans ((B1.block _ (by omega)).trans c0), ?_⟩
    exact bthen B0 B0.size (B1.trans (k.below (by have := B1.size; omega) (fun g hg => hg)))
  have HC3 : Hid (∀ W : World, RH (fun g => g < W.heap.size) (W.alloc (.cells #[.int .i64 l, .int .i64 0, .int .i64 0, .slice none 0 0] 73)) W.heap.size 0 (H.newSt l)) := fun W => new_rh W l _ (fun g q => q)
  have hx0 := HKc.out W1 (Keep.refl _ _)
  have x0 : W1.cell? ⟨w.heap.size, 0, none⟩ = some (.int .i64 l) := cell_of_row hx0.1 0
  have x1 : W1.cell? ⟨w.heap.size, 1, none⟩ = some (.int .i64 x) := cell_of_row hx0.1 1
  have x2 : W1.cell? ⟨w.heap.size, 2, none⟩ = some (.int .i64 y) := cell_of_row hx0.1 2
  have y0 : W0.cell? ⟨w.heap.size, 0, none⟩ = some (.int .i64 l) := cell_of_row c0 0
  have HOK : Hid (Okn (H.newSt l) x y n' z) := hok
  have HIv : Hid (H.Inv 0 (H.newSt l)) := iv
  have HS1 : Hid (H.Inv 0 (nS (H.newSt l) x y)) := nS_inv iv x y
  generalize hS : W0.heap.size + 1 = S at *
  have HSe : Hid (W0.heap.size + 1 = S) := hS
  clear B0 B1 c0 C1 hp iv hx0
  unfold cv
  go_enter Tryz.func8, Tryz.ntmps8
  go_wp2_with fail
  refine C1'.mono ?_; rintro e w1 ⟨rfl, hw1⟩; rw [hw1]; clear hw1 C1'
  go_wp2_with fail
  refine C2.mono ?_; rintro e W2 ⟨T, A, b, a', rfl, tt2, kk2⟩
  have hx2 := HKc.out W2 kk2
  obtain ⟨v2, hp2⟩ := tt2.hp
  have hS2 := hp2.str
  have hiv := HS1.out
  have B3 := b1 W2 (.cells #[.int .i64 l, .int .i64 0, .int .i64 0, .slice none 0 0] 73)
  have e3 : (W2.alloc (.cells #[.int .i64 l, .int .i64 0, .int .i64 0, .slice none 0 0] 73)).heap.size = W2.heap.size + 1 := by simp
  have rh := HC3.out W2
  obtain ⟨W3, hW3⟩ : ∃ W3, W2.alloc (.cells #[.int .i64 l, .int .i64 0, .int .i64 0, .slice none 0 0] 73) = W3 := ⟨_, rfl⟩
  rw [hW3] at B3 rh e3
  have C4 := HOK.out.rnew rh (by omega) HIv.out
  have z0 : W2.cell? ⟨w.heap.size, 0, none⟩ = some (.int .i64 l) := cell_of_row hx2.1 0
  have hl2 : w.heap.size < W2.heap.size := (Array.getElem?_eq_some_iff.1 hx2.1).1
  have hx3 := (B3.block _ hl2).trans hx2.1
  have z1 : W3.cell? ⟨w.heap.size, 1, none⟩ = some (.int .i64 x) := cell_of_row hx3 1
  have z2 : W3.cell? ⟨w.heap.size, 2, none⟩ = some (.int .i64 y) := cell_of_row hx3 2
  have hlS : S < W2.heap.size := (Array.getElem?_eq_some_iff.1 hS2).1
  have HS3 : Hid (∀ W, Keep (fun g => g < W2.heap.size) W3 W → W.heap[S]? = some (.cells #[.int .i64 (nS (H.newSt l) x y).lim, .int .i64 (nS (H.newSt l) x y).live, .int .i64 (nS (H.newSt l) x y).laid, v2, .map (some W0.heap.size)] 93 (0, 0)) ∧ Below w.heap.size w W) := fun W k =>
    ⟨(k.block S (by have := B3.size; omega) hlS).trans ((B3.block S hlS).trans hS2), hx2.2.trans ((B3.mono (by omega)).trans ((k.below (by have := B3.size; omega) (fun g hg => hg)).mono (by omega)))⟩
  have HT3 : Hid (∀ W, Keep (fun g => g < W2.heap.size) W3 W → TT (fun g => g < w.heap.size ∨ (W2.heap.size ≤ g ∧ g < W.heap.size)) W T A b a' S W0.heap.size 3 (newT n' z (H.takeId (H.takeSt (H.newSt l) 4) (n' : Nat)) (H.takeId (H.takeSt (H.takeSt (H.newSt l) 4) (n' : Nat)) (3 * (z : Nat)))) (nS (H.newSt l) x y)) := fun W k => by
    have t3 := tt2.news B3
    refine (t3.frame2 k.os k.tape k.output k.size (fun g hg hn => k.block g hg ?_)).sub (fun g q => ?_)
    · rcases Nat.lt_or_ge g W2.heap.size with q | q
      · exact q
      · exact absurd (.inr ⟨q, hg⟩) hn
    · have := k.size
      rcases q with q | q
      · exact .inl (.inl (by show g < W0.heap.size; omega))
      · rcases Nat.lt_or_ge g W3.heap.size with q2 | q2
        · exact .inl (.inr ⟨q.1, q2⟩)
        · exact .inr ⟨q2, q.2⟩
  have HM : Hid (w.heap.size ≤ W2.heap.size ∧ W2.heap.size ≤ W3.heap.size) := ⟨by omega, by omega⟩
  generalize hG : W2.heap.size = G at *
  clear C2 hp2 kk2 hx2 hS2 rh B3 hx3 x0 x1 x2 y0 tt2
  go_wp2_with fail
  refine C4.mono ?_; rintro e W4 ⟨RT, RA, P, ka, va, ca, rfl, rh4, kk4, nr4⟩
  have hs4 := HS3.out W4 kk4
  have C5 : Calls Tryz.prog 19 #[.pointer (some ⟨S, 0, none⟩)] W4 fun e w' => e = .returned (.int .i64 (nS (H.newSt l) x y).live) ∧ w' = W4 := H.live_any _ S _ (H.cell_row hs4.1 1)
  have C6 : Calls Tryz.prog 21 #[.pointer (some ⟨S, 0, none⟩)] W4 fun e w' => e = .returned (.int .i64 (nS (H.newSt l) x y).laid) ∧ w' = W4 := H.laid_any _ S _ (H.cell_row hs4.1 2)
  have C7 : Calls Tryz.prog 20 #[.pointer (some ⟨G, 0, none⟩)] W4 fun e w' => e = .returned (.int .i64 (nS (H.newSt l) x y).live) ∧ w' = W4 := rlv_any rh4 (by omega) hiv
  have C8 : Calls Tryz.prog 22 #[.pointer (some ⟨G, 0, none⟩)] W4 fun e w' => e = .returned (.int .i64 (nS (H.newSt l) x y).laid) ∧ w' = W4 := rld_any rh4 (by omega) hiv
  have HBG : Hid (Bgn w W4 G T A b a' S W0.heap.size RT RA P ka va ca G n' z (newT n' z (H.takeId (H.takeSt (H.newSt l) 4) (n' : Nat)) (H.takeId (H.takeSt (H.takeSt (H.newSt l) 4) (n' : Nat)) (3 * (z : Nat)))) (nS (H.newSt l) x y)) :=
    ⟨HT3.out W4 kk4, rh4, ⟨W3, HM.out.2, nr4⟩, hs4.2, HM.out.1, hiv, rfl, HOK.out.hz, HOK.out.hn⟩
  clear C4 rh4 kk4 hs4 HS3 HT3 z0 z1 z2 hiv nr4
  generalize (nS (H.newSt l) x y).live = lv at *
  generalize (nS (H.newSt l) x y).laid = ld at *
  go_wp2_with fail
  refine C5.mono ?_; rintro e w5 ⟨rfl, hw5⟩; rw [hw5]; clear hw5 C5
  go_wp2_with fail
  refine C7.mono ?_; rintro e w5 ⟨rfl, hw5⟩; rw [hw5]; clear hw5 C7
  go_wp2_with fail
  refine C6.mono ?_; rintro e w5 ⟨rfl, hw5⟩; rw [hw5]; clear hw5 C6
  go_wp2_with fail
  refine C8.mono ?_; rintro e w5 ⟨rfl, hw5⟩; rw [hw5]; clear hw5 C8
  go_wp2_with fail
  refine bodyPost_ret (v := .tuple #[.pointer (some ⟨T, 0, none⟩), .pointer (some ⟨S, 0, none⟩), .pointer (some ⟨RT, 0, none⟩), .bool true]) (by simp [results, Tryz.results8, go_sem]) rfl ⟨_, _, _, _, _, _, _, _, _, _, _, _, _, _, _, _, _, rfl, HBG.out, HOK.out, rfl, rfl⟩
end Go.Proofs.YtonopchpnhninaaGreat

/- The reference's table in memory; the walks of within, Places, Stats. The great seat's numbers. -/
namespace Go.Proofs.YtonopchpnhninaaGreat
open Go.RowKit

/-- The reference's table: the struct in RT, its slots in A, its part in P. -/
structure Rb (w : World) (RT A P ka va ca : Nat) (cb : Nat → Nat) (G : Nat) (t : TS) : Prop where
  c0 : w.cell? ⟨RT, 0, none⟩ = some (.slice (some ⟨A, 0, none⟩) t.p.n t.p.n)
  c1 : w.cell? ⟨RT, 1, none⟩ = some (.pointer (some ⟨P, 0, none⟩))
  c2 : w.cell? ⟨RT, 2, none⟩ = some (.int .i64 t.sb)
  c3 : w.cell? ⟨RT, 3, none⟩ = some (.int .i64 t.nb)
  c4 : w.cell? ⟨RT, 4, none⟩ = some (.int .i64 t.hint)
  c5 : w.cell? ⟨RT, 5, none⟩ = some (.int .i64 t.pr)
  c6 : w.cell? ⟨RT, 6, none⟩ = some (.pointer (some ⟨G, 0, none⟩))
  fz : ∀ j, w.frozen? ⟨RT, j, none⟩ = false
  sl : Rv w A t.p.n t.p.F
  fA : ∀ j, w.frozen? ⟨A, j, none⟩ = false
  ltR : RT < w.heap.size
  ltA : A < w.heap.size
  rp : Rp w P ka va ca t.p.z t.p.g cb
  nRA : RT ≠ A
  nR : ∀ x, Rp.Own P ka va ca t.p.z t.p.g cb x → x ≠ RT
  nA : ∀ x, Rp.Own P ka va ca t.p.z t.p.g cb x → x ≠ A
/-- The blocks that are its own. -/
def Rb.Own (RT A P ka va ca : Nat) (cb : Nat → Nat) (t : TS) (x : Nat) : Prop := x = RT ∨ x = A ∨ Rp.Own P ka va ca t.p.z t.p.g cb x
theorem Rb.kept {No : Nat → Prop} {w w' : World} {RT A P ka va ca : Nat} {cb : Nat → Nat} {G : Nat} {t : TS} (h : Rb w RT A P ka va ca cb G t) (k : Keep No w w') (hn : ∀ x, Rb.Own RT A P ka va ca cb t x → No x) : Rb w' RT A P ka va ca cb G t := by
  have eR := k.block RT h.ltR (hn RT (.inl rfl))
  have eA := k.block A h.ltA (hn A (.inr (.inl rfl)))
  exact ⟨by rw [World.cell?_of_block (w := w) eR]; exact h.c0, by rw [World.cell?_of_block (w := w) eR]; exact h.c1, by rw [World.cell?_of_block (w := w) eR]; exact h.c2, by rw [World.cell?_of_block (w := w) eR]; exact h.c3, by rw [World.cell?_of_block (w := w) eR]; exact h.c4, by rw [World.cell?_of_block (w := w) eR]; exact h.c5, by rw [World.cell?_of_block (w := w) eR]; exact h.c6, fun j => by rw [World.frozen?_of_block (w := w) eR]; exact h.fz j, h.sl.block eA, fun j => by rw [World.frozen?_of_block (w := w) eA]; exact h.fA j, Nat.lt_of_lt_of_le h.ltR k.size, Nat.lt_of_lt_of_le h.ltA k.size, h.rp.kept k (fun x q => hn x (.inr (.inr q))), h.nRA, h.nR, h.nA⟩
theorem Rb.below {w w' : World} {RT A P ka va ca : Nat} {cb : Nat → Nat} {G : Nat} {t : TS} (h : Rb w RT A P ka va ca cb G t) (k : Below w.heap.size w w') : Rb w' RT A P ka va ca cb G t := h.kept (No := fun _ => True) (Keep.of k) (fun _ _ => trivial)

set_option maxRecDepth 20000 in
set_option maxHeartbeats 2000000 in
theorem rwithin_any {RT A : Nat} {n : Nat} (k : V) (w : World) (h : w.cell? ⟨RT, 0, none⟩ = some (.slice (some ⟨A, 0, none⟩) n n)) (hlt : RT < w.heap.size) :
    Calls Tryz.prog 53 #[.pointer (some ⟨RT, 0, none⟩), vv k] w fun e w' => e = .returned (.bool (decide (inA n k))) ∧ Below w.heap.size w w' := by
  have c0' : (w.alloc (vb k.1 k.2.1 k.2.2)).cell? ⟨RT, 0, none⟩ = some (.slice (some ⟨A, 0, none⟩) n n) := by
    rw [World.cell?_of_block (w := w) (Below.heap_alloc _ _ _ hlt)]; exact h
  have HE : Hid (decide (inA n k) = decide (k.1 = 2 ∧ k.2.2.toList = [] ∧ 1 ≤ k.2.1 ∧ k.2.1 ≤ (n : Int))) := by
    show _ = _
    unfold inA
    have : k.2.2 = ⟨#[]⟩ ↔ k.2.2.toList = [] := by rw [← bytes_iff]; simp [ByteArray.toList_eq]
    simp only [this]
  clear h
  obtain ⟨k0, k1, k2⟩ := k
  unfold vv vl
  unfold vb at *
  simp only at *
  have HB : Hid _ := b1 w (.cells #[.int .i64 k0, .int .i64 k1, .string k2] 35)
  by_cases h1 : k0 = 2
  · subst h1
    by_cases h2 : k2.toList = []
    · have g2 : (k2.toList == []) = true := by simp [h2]
      by_cases h3 : 1 ≤ k1
      · have g3 : decide (1 ≤ k1) = true := by simp [h3]
        by_cases h4 : k1 ≤ (n : Int)
        · have g4 : decide (k1 ≤ (n : Int)) = true := by simp [h4]
          have E : Hid (decide (inA n (2, k1, k2)) = true) := HE.out.trans (decide_eq_true ⟨rfl, h2, h3, h4⟩)
          clear HE
          go_enter Tryz.func53, Tryz.ntmps53
          go_wp2_with fail
          go_quiet (fail)
          go_wp2_with fail
          go_ret
          rw [E.out]
          exact ⟨rfl, bthen HB.out (by simp) (bdrew _ _ _)⟩
        · have g4 : decide (k1 ≤ (n : Int)) = false := by simp [h4]
          have E : Hid (decide (inA n (2, k1, k2)) = false) := HE.out.trans (decide_eq_false (fun q => h4 q.2.2.2))
          clear HE
          go_enter Tryz.func53, Tryz.ntmps53
          go_wp2_with fail
          go_quiet (fail)
          go_wp2_with fail
          go_ret
          rw [E.out]
          exact ⟨rfl, bthen HB.out (by simp) (bdrew _ _ _)⟩
      · have g3 : decide (1 ≤ k1) = false := by simp [h3]
        have E : Hid (decide (inA n (2, k1, k2)) = false) := HE.out.trans (decide_eq_false (fun q => h3 q.2.2.1))
        clear HE c0'
        go_enter Tryz.func53, Tryz.ntmps53
        go_wp2_with fail
        go_quiet (fail)
        go_wp2_with fail
        go_ret
        rw [E.out]
        exact ⟨rfl, bthen HB.out (by simp) (bdrew _ _ _)⟩
    · have g2 : (k2.toList == []) = false := by simpa using h2
      have E : Hid (decide (inA n (2, k1, k2)) = false) := HE.out.trans (decide_eq_false (fun q => h2 q.2.1))
      clear HE c0'
      go_enter Tryz.func53, Tryz.ntmps53
      go_wp2_with fail
      go_quiet (fail)
      go_wp2_with fail
      go_ret
      rw [E.out]
      exact ⟨rfl, bthen HB.out (by simp) (bdrew _ _ _)⟩
  · have g1 : (k0 == 2) = false := by simpa using h1
    have E : Hid (decide (inA n (k0, k1, k2)) = false) := HE.out.trans (decide_eq_false (fun q => h1 q.1))
    clear HE c0'
    go_enter Tryz.func53, Tryz.ntmps53
    go_wp2_with fail
    go_quiet (fail)
    go_wp2_with fail
    go_ret
    rw [E.out]
    exact ⟨rfl, bthen HB.out (by simp) (bdrew _ _ _)⟩
set_option maxHeartbeats 1000000 in
theorem rpsize_any {P ka va ca z : Nat} {g : G} {cb : Nat → Nat} (w : World) (h : Rp w P ka va ca z g cb) : Calls Tryz.prog 48 #[.pointer (some ⟨P, 0, none⟩)] w fun e w' => e = .returned (.int .i64 (z : Nat)) ∧ w' = w := by
  have c0 := h.s0
  clear h
  go_enter Tryz.func48, Tryz.ntmps48
  go_wp2_with fail
  go_ret
  exact ⟨rfl, rfl⟩
end Go.Proofs.YtonopchpnhninaaGreat
