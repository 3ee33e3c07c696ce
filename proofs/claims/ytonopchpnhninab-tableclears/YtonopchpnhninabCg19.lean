/- The walk of begin: both heaps, both tables. -/
import Derived.Test.YtonopchpnhninabCg18
import Derived.Test.YtonopchpnhninabCg15
namespace Go.Proofs.Ytonopchpnhninab
open Go.RowKit

theorem new_hp (w : World) (n : Int) (No : Nat → Prop) (hn : ∀ g, No g → g < w.heap.size) : H.Hp No ((w.alloc (.map #[] 0)).alloc (.cells #[.int .i64 n, .int .i64 0, .int .i64 0, .slice none 0 0, .map (some w.heap.size)] 85)) (w.heap.size + 1) w.heap.size 0 (.slice none 0 0) (H.newSt n) := by
  have e : (w.alloc (.map #[] 0)).heap.size = w.heap.size + 1 := by simp
  have hs := (MapKept.heap_alloc (w.alloc (.map #[] 0)) (.cells #[.int .i64 n, .int .i64 0, .int .i64 0, .slice none 0 0, .map (some w.heap.size)] 85)).1
  rw [e] at hs
  refine ⟨hs, World.ownsRow_nil _ _ _ _, (H.Rdy.made No w).alloc _, Nat.le_refl _, fun q => ?_, fun q => ?_, fun g e => (by cases e), fun g q => ?_⟩
  · have := hn _ q; omega
  · have := hn _ q; omega
  · have := hn _ q; simp; omega
theorem new_rh (w : World) (n : Int) (No : Nat → Prop) (hn : ∀ g, No g → g < w.heap.size) : RH No (w.alloc (.cells #[.int .i64 n, .int .i64 0, .int .i64 0, .slice none 0 0] 70)) w.heap.size 0 (H.newSt n) := by
  refine ⟨.slice none 0 0, ⟨n, 0, 0, []⟩, ⟨(MapKept.heap_alloc w _).1, World.ownsRow_nil _ _ _ _, Nat.le_refl _, fun q => ?_, fun g e => (by cases e), fun g q => ?_⟩, H.Sim.new n, Int.le_refl _⟩
  · have := hn _ q; omega
  · have := hn _ q; simp; omega
theorem TT.frame2 {No : Nat → Prop} {w w' : World} {T A b a S hb c : Nat} {t : TS} {s : H.St} (h : TT No w T A b a S hb c t s) (hos : w'.os = w.os) (ht : w'.tape = w.tape) (ho : w'.output = w.output) (hs : w.heap.size ≤ w'.heap.size) (hk : ∀ g, g < w.heap.size → ¬ No g → w'.heap[g]? = w.heap[g]?) :
    TT (fun g => No g ∨ (w.heap.size ≤ g ∧ g < w'.heap.size)) w' T A b a S hb c t s := by
  obtain ⟨vb, hp⟩ := h.hp
  have l1 := h.tm.pm.ltA
  have l2 := h.tm.pm.ltB
  have l3 := h.tm.pm.pt.lta
  have l4 := h.tm.pm.pt.ltb
  have k : Keep (fun g => ¬ No g) w w' := ⟨hos, ht, ho, hs, hk⟩
  refine ⟨h.tm.kept k h.nT h.nA h.nb h.na, ⟨vb, Hp.sub (Hp.frame2 hp hos ht ho hs (fun g hg hn => hk g hg (fun q => hn (.inl q)))) (fun g q => ?_)⟩, fun q => q.elim h.nT (by omega), fun q => q.elim h.nA (by omega), fun q => q.elim h.nb (by omega), fun q => q.elim h.na (by omega), h.ti, h.iv, h.p0, h.p1⟩
  rcases q with (q | q) | q
  · exact .inl (.inl q)
  · exact .inr q
  · exact .inl (.inr q)

/-- What New comes to. -/
def inP (x : Int) : Prop := 0 ≤ x ∧ x ≤ 65536
instance (x : Int) : Decidable (inP x) := inferInstanceAs (Decidable (_ ∧ _))
def nE (s : H.St) (x y : Int) : Int := if ¬ (inP x ∧ inP y) then 1 else if H.takeE s 4 ≠ 0 then H.takeE s 4 else tpE (H.takeSt s 4) x (C.up2 y)
def nS (s : H.St) (x y : Int) : H.St := if ¬ (inP x ∧ inP y) then s else if H.takeE s 4 ≠ 0 then s else if tpE (H.takeSt s 4) x (C.up2 y) ≠ 0 then H.giveSt (tpS (H.takeSt s 4) x (C.up2 y)) (H.takeId s 4) else tpS (H.takeSt s 4) x (C.up2 y)
theorem nS_inv {s : H.St} (iv : H.Inv 0 s) (x y : Int) : H.Inv 0 (nS s x y) := by
  unfold nS
  split
  · exact iv
  · split
    · exact iv
    · split
      · exact (tp_inv (iv.take 4) _ _).give _
      · exact tp_inv (iv.take 4) _ _
theorem inP.nat {x : Int} (h : inP x) : ∃ n : Nat, x = n ∧ n ≤ 65536 := ⟨x.toNat, by have := h.1; omega, by have := h.1; have := h.2; omega⟩
theorem nE_arg {s : H.St} {x y : Int} (hp : ¬ (inP x ∧ inP y)) : nE s x y = 1 ∧ nS s x y = s := ⟨by unfold nE; rw [if_pos hp], by unfold nS; rw [if_pos hp]⟩
theorem nE_four {s : H.St} {x y : Int} (hp : inP x ∧ inP y) (h4 : H.takeE s 4 ≠ 0) : nE s x y = H.takeE s 4 ∧ nS s x y = s := by
  have hp' : ¬ ¬ (inP x ∧ inP y) := fun q => q hp
  exact ⟨by unfold nE; rw [if_neg hp', if_pos h4], by unfold nS; rw [if_neg hp', if_pos h4]⟩
theorem nE_rest {s : H.St} {x y : Int} (hp : inP x ∧ inP y) (h4 : H.takeE s 4 = 0) : nE s x y = tpE (H.takeSt s 4) x (C.up2 y) ∧ nS s x y = (if tpE (H.takeSt s 4) x (C.up2 y) ≠ 0 then H.giveSt (tpS (H.takeSt s 4) x (C.up2 y)) (H.takeId s 4) else tpS (H.takeSt s 4) x (C.up2 y)) := by
  have hp' : ¬ ¬ (inP x ∧ inP y) := fun q => q hp
  have h4' : ¬ H.takeE s 4 ≠ 0 := fun q => q h4
  exact ⟨by unfold nE; rw [if_neg hp', if_neg h4'], by unfold nS; rw [if_neg hp', if_neg h4']⟩
theorem tpE_one {s : H.St} {n z : Int} (q : H.takeE s n ≠ 0) : tpE s n z = H.takeE s n ∧ tpS s n z = s := ⟨by unfold tpE; rw [if_pos q], by unfold tpS; rw [if_pos q]⟩
theorem tpE_two {s : H.St} {n z : Int} (q : H.takeE s n = 0) : tpE s n z = H.takeE (H.takeSt s n) (3 * z) ∧ tpS s n z = if H.takeE (H.takeSt s n) (3 * z) ≠ 0 then H.giveSt (H.takeSt s n) (H.takeId s n) else H.takeSt (H.takeSt s n) (3 * z) := by
  have q' : ¬ H.takeE s n ≠ 0 := fun h => h q
  exact ⟨by unfold tpE; rw [if_neg q'], by unfold tpS; rw [if_neg q']⟩
theorem new_fail {No : Nat → Prop} {w : World} {S hb c : Nat} {vb : Value} {s : H.St} (h : H.Hp No w S hb c vb s) (hc : c ≤ 700000) (iv : H.Inv 0 s) (x y : Int) (he : nE s x y ≠ 0) :
    Calls Try.prog 16 #[.pointer (some ⟨S, 0, none⟩), .int .i64 x, .int .i64 y] w fun e w' => e = .returned (.tuple #[.pointer none, .int .i64 (nE s x y)]) ∧ (∃ v', H.Hp No w' S hb (c + 5) v' (nS s x y)) ∧ Keep No w w' := by
  by_cases hp : inP x ∧ inP y
  · by_cases h4 : H.takeE s 4 = 0
    · obtain ⟨e1, e2⟩ := nE_rest hp h4
      rw [e1] at he
      rw [e1, e2, if_pos he]
      obtain ⟨n, rfl, hn⟩ := hp.1.nat
      obtain ⟨m, rfl, hm⟩ := hp.2.nat
      obtain ⟨z, hz, hz2, _⟩ := up2_rt (m : Nat) (by omega) (by omega)
      rw [hz] at he ⊢
      exact new_parts h hc iv n m z hn hm hz hz2.le h4 he
    · obtain ⟨e1, e2⟩ := nE_four hp h4
      rw [e1, e2]
      obtain ⟨n, rfl, hn⟩ := hp.1.nat
      obtain ⟨m, rfl, hm⟩ := hp.2.nat
      refine (new_cells h hc iv n m hn hm h4).mono ?_
      rintro e w' ⟨rfl, ⟨v', hp'⟩, kk⟩
      exact ⟨rfl, ⟨v', hp'.more (by omega)⟩, kk⟩
  · obtain ⟨e1, e2⟩ := nE_arg (s := s) hp
    rw [e1, e2]
    refine (new_arg w _ (.inr ⟨S, rfl⟩) x y (.inr ?_)).mono ?_
    · by_cases q : inP x
      · exact .inr fun q2 => hp ⟨q, q2⟩
      · exact .inl q
    · rintro e w' ⟨rfl, rfl⟩
      exact ⟨rfl, ⟨vb, h.more (by omega)⟩, Keep.refl _ _⟩
theorem rnew_fail {No : Nat → Prop} {w : World} {S c : Nat} {s : H.St} (h : RH No w S c s) (hc : c ≤ 700000) (iv : H.Inv 0 s) (x y : Int) (he : nE s x y ≠ 0) :
    Calls Try.prog 27 #[.pointer (some ⟨S, 0, none⟩), .int .i64 x, .int .i64 y] w fun e w' => e = .returned (.tuple #[.pointer none, .int .i64 (nE s x y)]) ∧ RH No w' S (c + 5) (nS s x y) ∧ Keep No w w' := by
  by_cases hp : inP x ∧ inP y
  · by_cases h4 : H.takeE s 4 = 0
    · obtain ⟨e1, e2⟩ := nE_rest hp h4
      rw [e1] at he
      rw [e1, e2, if_pos he]
      obtain ⟨n, rfl, hn⟩ := hp.1.nat
      obtain ⟨m, rfl, hm⟩ := hp.2.nat
      obtain ⟨z, hz, hz2, _⟩ := up2_rt (m : Nat) (by omega) (by omega)
      rw [hz] at he ⊢
      by_cases q : H.takeE (H.takeSt s 4) (n : Nat) = 0
      · obtain ⟨e3, e4⟩ := tpE_two (z := (z : Nat)) q
        rw [e3] at he
        rw [e3, e4, if_pos he]
        exact rnew_two h hc iv n m z hn hm hz hz2.le h4 q he
      · obtain ⟨e3, e4⟩ := tpE_one (z := (z : Nat)) q
        rw [e3, e4]
        refine (rnew_one h hc iv n m hn hm h4 q).mono ?_
        rintro e w' ⟨rfl, hp', kk⟩
        exact ⟨rfl, hp'.more (by omega), kk⟩
    · obtain ⟨e1, e2⟩ := nE_four hp h4
      rw [e1, e2]
      obtain ⟨n, rfl, hn⟩ := hp.1.nat
      obtain ⟨m, rfl, hm⟩ := hp.2.nat
      refine (rnew_cells h hc iv n m hn hm h4).mono ?_
      rintro e w' ⟨rfl, hp', kk⟩
      exact ⟨rfl, hp'.more (by omega), kk⟩
  · obtain ⟨e1, e2⟩ := nE_arg (s := s) hp
    rw [e1, e2]
    refine (rnew_arg w S x y ?_).mono ?_
    · by_cases q : inP x
      · exact .inr fun q2 => hp ⟨q, q2⟩
      · exact .inl q
    · rintro e w' ⟨rfl, rfl⟩
      exact ⟨rfl, h.more (by omega), Keep.refl _ _⟩
/-- What it takes that New succeeds. -/
structure Okn (s : H.St) (x y : Int) (n z : Nat) : Prop where
  ex : x = n
  hn : n ≤ 65536
  hy : ∃ m : Nat, y = m ∧ m ≤ 65536 ∧ C.up2 (m : Nat) = (z : Nat)
  hz : Rt z
  e1 : H.takeE s 4 = 0
  e2 : H.takeE (H.takeSt s 4) (n : Nat) = 0
  e3 : H.takeE (H.takeSt (H.takeSt s 4) (n : Nat)) (3 * (z : Nat)) = 0
  es : nS s x y = H.takeSt (H.takeSt (H.takeSt s 4) (n : Nat)) (3 * (z : Nat))
theorem okn {s : H.St} {x y : Int} (he : nE s x y = 0) : ∃ n z, Okn s x y n z := by
  by_cases hp : inP x ∧ inP y
  · by_cases h4 : H.takeE s 4 = 0
    · obtain ⟨e1, e2⟩ := nE_rest hp h4
      rw [e1] at he
      rw [if_neg (fun q => q he)] at e2
      obtain ⟨n, rfl, hn⟩ := hp.1.nat
      obtain ⟨m, rfl, hm⟩ := hp.2.nat
      obtain ⟨z, hz, hz2, _⟩ := up2_rt (m : Nat) (by omega) (by omega)
      rw [hz] at he e2
      by_cases q : H.takeE (H.takeSt s 4) (n : Nat) = 0
      · obtain ⟨e3, e4⟩ := tpE_two (z := (z : Nat)) q
        rw [e3] at he
        rw [if_neg (fun q => q he)] at e4
        exact ⟨n, z, rfl, hn, ⟨m, rfl, hm, hz⟩, hz2, h4, q, he, e2.trans e4⟩
      · rw [(tpE_one (z := (z : Nat)) q).1] at he; exact absurd he q
    · rw [(nE_four hp h4).1] at he; exact absurd he h4
  · rw [(nE_arg hp).1] at he; cases he

abbrev cv (l x y : Int) (v : Value) : Value := .agg #[.int .i64 l, .int .i64 x, .int .i64 y, v]
set_option maxRecDepth 20000 in
set_option maxHeartbeats 2000000 in
theorem begin_lim (l x y : Int) (a : Option Addr) (n cap : Nat) (w : World) (hl : l < 0 ∨ 400000 < l) :
    Calls Try.prog 8 #[cv l x y (.slice a n cap)] w fun e w' => e = .returned (.tuple #[.pointer none, .pointer none, .pointer none, .bool true]) ∧ Below w.heap.size w w' := by
  have C1 := fun W => H.new_bad W l hl
  have C2 := fun W => new_arg W (.pointer none) (.inl rfl) 0 0 (.inl rfl)
  unfold cv
  have HB : Hid _ := b1 w (.cells #[.int .i64 l, .int .i64 x, .int .i64 y, .slice a n cap] 24)
  rcases hl with hl | hl
  · go_enter Try.func8, Try.ntmps8
    go_wp2_with fail
    refine (C1 _).mono ?_; rintro e w1 ⟨rfl, hw1⟩; rw [hw1]; clear hw1
    go_wp2_with fail
    refine (C2 _).mono ?_; rintro e w1 ⟨rfl, hw1⟩; rw [hw1]; clear hw1
    go_wp2_with fail
    go_quiet (fail)
    go_wp2_with fail
    refine bodyPost_ret (v := .tuple #[.pointer none, .pointer none, .pointer none, .bool true]) (by simp [results, Try.results8, go_sem]) rfl ⟨rfl, bthen HB.out HB.out.size (bdrew _ _ _)⟩
  · have hl0 : ¬ l < 0 := by omega
    go_enter Try.func8, Try.ntmps8
    go_wp2_with fail
    refine (C1 _).mono ?_; rintro e w1 ⟨rfl, hw1⟩; rw [hw1]; clear hw1
    go_wp2_with fail
    refine (C2 _).mono ?_; rintro e w1 ⟨rfl, hw1⟩; rw [hw1]; clear hw1
    go_wp2_with fail
    go_quiet (fail)
    go_wp2_with fail
    refine bodyPost_ret (v := .tuple #[.pointer none, .pointer none, .pointer none, .bool true]) (by simp [results, Try.results8, go_sem]) rfl ⟨rfl, bthen HB.out HB.out.size (bdrew _ _ _)⟩

set_option maxRecDepth 20000 in
set_option maxHeartbeats 4000000 in
theorem begin_fail (l x y : Int) (a : Option Addr) (n cap : Nat) (w : World) (h0 : 0 ≤ l) (h1 : l ≤ 400000) (he : nE (H.newSt l) x y ≠ 0) :
    Calls Try.prog 8 #[cv l x y (.slice a n cap)] w fun e w' => ∃ S, e = .returned (.tuple #[.pointer none, .pointer (some ⟨S, 0, none⟩), .pointer none, .bool true]) ∧ Below w.heap.size w w' := by
  have iv := H.Inv.new l h0 h1
  have C1 := fun W => H.new_walk W l h0 h1
  have B0 := b1 w (.cells #[.int .i64 l, .int .i64 x, .int .i64 y, .slice a n cap] 24)
  have c0 : (w.alloc (.cells #[.int .i64 l, .int .i64 x, .int .i64 y, .slice a n cap] 24)).heap[w.heap.size]? = some (.cells #[.int .i64 l, .int .i64 x, .int .i64 y, .slice a n cap] 24) := (MapKept.heap_alloc w _).1
  have e0 : (w.alloc (.cells #[.int .i64 l, .int .i64 x, .int .i64 y, .slice a n cap] 24)).heap.size = w.heap.size + 1 := by simp
  obtain ⟨W0, hW0⟩ : ∃ W0, w.alloc (.cells #[.int .i64 l, .int .i64 x, .int .i64 y, .slice a n cap] 24) = W0 := ⟨_, rfl⟩
  rw [hW0] at B0 c0 e0
  have hp := new_hp W0 l (fun g => g < W0.heap.size) (fun g q => q)
  have B1 := b2 W0 (.map #[] 0) (.cells #[.int .i64 l, .int .i64 0, .int .i64 0, .slice none 0 0, .map (some W0.heap.size)] 85)
  have C1' := C1 W0
  obtain ⟨W1, hW1⟩ : ∃ W1, (W0.alloc (.map #[] 0)).alloc (.cells #[.int .i64 l, .int .i64 0, .int .i64 0, .slice none 0 0, .map (some W0.heap.size)] 85) = W1 := ⟨_, rfl⟩
  rw [hW1] at hp B1 C1'
  have C2 := new_fail hp (by omega) iv x y he
  have HKc : Hid (∀ W, Keep (fun g => g < W0.heap.size) W1 W → W.heap[w.heap.size]? = some (.cells #[.int .i64 l, .int .i64 x, .int .i64 y, .slice a n cap] 24) ∧ Below w.heap.size w W) := fun W k => by
    have l0 : w.heap.size < W1.heap.size := by have := B1.size; omega
    refine ⟨(k.block _ l0 (by show _ < _; omega)).trans ((B1.block _ (by omega)).trans c0), ?_⟩
    exact bthen B0 B0.size (B1.trans (k.below (by have := B1.size; omega) (fun g hg => hg)))
  have HC3 : Hid (∀ W : World, RH (fun g => g < W.heap.size) (W.alloc (.cells #[.int .i64 l, .int .i64 0, .int .i64 0, .slice none 0 0] 70)) W.heap.size 0 (H.newSt l)) := fun W => new_rh W l _ (fun g q => q)
  have hx0 := HKc.out W1 (Keep.refl _ _)
  have x0 : W1.cell? ⟨w.heap.size, 0, none⟩ = some (.int .i64 l) := cell_of_row hx0.1 0
  have x1 : W1.cell? ⟨w.heap.size, 1, none⟩ = some (.int .i64 x) := cell_of_row hx0.1 1
  have x2 : W1.cell? ⟨w.heap.size, 2, none⟩ = some (.int .i64 y) := cell_of_row hx0.1 2
  have y0 : W0.cell? ⟨w.heap.size, 0, none⟩ = some (.int .i64 l) := cell_of_row c0 0
  have HE : Hid (nE (H.newSt l) x y ≠ 0) := he
  have HIv : Hid (H.Inv 0 (H.newSt l)) := iv
  have HS1 : Hid (H.Inv 0 (nS (H.newSt l) x y)) := nS_inv iv x y
  generalize hS : W0.heap.size + 1 = S at *
  have HSe : Hid (W0.heap.size + 1 = S) := hS
  clear B0 B1 c0 C1 hp iv hx0
  unfold cv
  go_enter Try.func8, Try.ntmps8
  go_wp2_with fail
  refine C1'.mono ?_; rintro e w1 ⟨rfl, hw1⟩; rw [hw1]; clear hw1 C1'
  go_wp2_with fail
  refine C2.mono ?_; rintro e W2 ⟨rfl, ⟨v2, hp2⟩, kk2⟩
  have hx2 := HKc.out W2 kk2
  have hS2 := hp2.str
  have hiv := HS1.out
  have B3 := b1 W2 (.cells #[.int .i64 l, .int .i64 0, .int .i64 0, .slice none 0 0] 70)
  have rh := HC3.out W2
  obtain ⟨W3, hW3⟩ : ∃ W3, W2.alloc (.cells #[.int .i64 l, .int .i64 0, .int .i64 0, .slice none 0 0] 70) = W3 := ⟨_, rfl⟩
  rw [hW3] at B3 rh
  have C4 := rnew_fail rh (by omega) HIv.out x y HE.out
  have z0 : W2.cell? ⟨w.heap.size, 0, none⟩ = some (.int .i64 l) := cell_of_row hx2.1 0
  have hl2 : w.heap.size < W2.heap.size := (Array.getElem?_eq_some_iff.1 hx2.1).1
  have hx3 := (B3.block _ hl2).trans hx2.1
  have z1 : W3.cell? ⟨w.heap.size, 1, none⟩ = some (.int .i64 x) := cell_of_row hx3 1
  have z2 : W3.cell? ⟨w.heap.size, 2, none⟩ = some (.int .i64 y) := cell_of_row hx3 2
  have hlS : S < W2.heap.size := (Array.getElem?_eq_some_iff.1 hS2).1
  have HS3 : Hid (∀ W, Keep (fun g => g < W2.heap.size) W3 W → W.heap[S]? = some (.cells #[.int .i64 (nS (H.newSt l) x y).lim, .int .i64 (nS (H.newSt l) x y).live, .int .i64 (nS (H.newSt l) x y).laid, v2, .map (some W0.heap.size)] 85 (0, 0)) ∧ Below w.heap.size w W) := fun W k =>
    ⟨(k.block S (by have := B3.size; omega) hlS).trans ((B3.block S hlS).trans hS2), hx2.2.trans ((B3.mono (by omega)).trans ((k.below (by have := B3.size; omega) (fun g hg => hg)).mono (by omega)))⟩
  generalize hG : W2.heap.size = G at *
  clear C2 hp2 kk2 hx2 hS2 rh B3 hx3 x0 x1 x2 y0
  go_wp2_with fail
  refine C4.mono ?_; rintro e W4 ⟨rfl, rh4, kk4⟩
  have hs4 := HS3.out W4 kk4
  have C5 : Calls Try.prog 18 #[.pointer (some ⟨S, 0, none⟩)] W4 fun e w' => e = .returned (.int .i64 (nS (H.newSt l) x y).live) ∧ w' = W4 := H.live_any _ S _ (H.cell_row hs4.1 1)
  have C6 : Calls Try.prog 29 #[.pointer (some ⟨S, 0, none⟩)] W4 fun e w' => e = .returned (.int .i64 (nS (H.newSt l) x y).laid) ∧ w' = W4 := H.laid_any _ S _ (H.cell_row hs4.1 2)
  have C7 : Calls Try.prog 28 #[.pointer (some ⟨G, 0, none⟩)] W4 fun e w' => e = .returned (.int .i64 (nS (H.newSt l) x y).live) ∧ w' = W4 := rlv_any rh4 (by omega) hiv
  have C8 : Calls Try.prog 30 #[.pointer (some ⟨G, 0, none⟩)] W4 fun e w' => e = .returned (.int .i64 (nS (H.newSt l) x y).laid) ∧ w' = W4 := rld_any rh4 (by omega) hiv
  have HB4 : Hid (Below w.heap.size w W4) := hs4.2
  clear C4 rh4 kk4 hs4 HS3 z0 z1 z2 hiv
  generalize nE (H.newSt l) x y = E at *
  generalize (nS (H.newSt l) x y).live = lv at *
  generalize (nS (H.newSt l) x y).laid = ld at *
  go_wp2_with fail
  refine C5.mono ?_; rintro e w5 ⟨rfl, hw5⟩; rw [hw5]; clear hw5 C5
  go_wp2_with fail
  refine C7.mono ?_; rintro e w5 ⟨rfl, hw5⟩; rw [hw5]; clear hw5 C7
  go_wp2_with fail
  refine C6.mono ?_; rintro e w5 ⟨rfl, hw5⟩; rw [hw5]; clear hw5 C6
  go_wp2_with fail
  refine C8.mono ?_; rintro e w5 ⟨rfl, hw5⟩; rw [hw5]; clear hw5 C8
  go_wp2_with fail
  refine bodyPost_ret (v := .tuple #[.pointer none, .pointer (some ⟨S, 0, none⟩), .pointer none, .bool true]) (by simp [results, Try.results8, go_sem]) rfl ⟨S, rfl, HB4.out⟩
end Go.Proofs.Ytonopchpnhninab

/- The walk of begin, on: both tables. -/
namespace Go.Proofs.Ytonopchpnhninab
open Go.RowKit

theorem Okn.new {No : Nat → Prop} {w : World} {S hb c n z : Nat} {vb : Value} {s : H.St} {x y : Int} (o : Okn s x y n z) (h : H.Hp No w S hb c vb s) (hc : c ≤ 700000) (iv : H.Inv 0 s) :
    Calls Try.prog 16 #[.pointer (some ⟨S, 0, none⟩), .int .i64 x, .int .i64 y] w fun e w' => ∃ T A b a, e = .returned (.tuple #[.pointer (some ⟨T, 0, none⟩), .int .i64 0]) ∧ TT No w' T A b a S hb (c + 3) (newT n z (H.takeId (H.takeSt s 4) (n : Nat)) (H.takeId (H.takeSt (H.takeSt s 4) (n : Nat)) (3 * (z : Nat)))) (nS s x y) ∧ Keep No w w' := by
  obtain ⟨m, rfl, hm, hz⟩ := o.hy
  obtain ⟨e3, e4⟩ := tpE_two (z := (z : Nat)) o.e2
  rw [if_neg (fun q => q o.e3)] at e4
  rw [o.es, ← e4, o.ex]
  exact new_good h hc iv n m z o.hn hm hz o.hz o.e1 (e3.trans o.e3)
theorem Okn.rnew {No : Nat → Prop} {w : World} {S c n z : Nat} {s : H.St} {x y : Int} (o : Okn s x y n z) (h : RH No w S c s) (hc : c ≤ 700000) (iv : H.Inv 0 s) :
    Calls Try.prog 27 #[.pointer (some ⟨S, 0, none⟩), .int .i64 x, .int .i64 y] w fun e w' => ∃ RT A P ka va ca, e = .returned (.tuple #[.pointer (some ⟨RT, 0, none⟩), .int .i64 0]) ∧ RH (fun g => No g ∨ g = RT ∨ g = A ∨ g = P ∨ g = ka ∨ g = va ∨ g = ca) w' S (c + 3) (nS s x y) ∧ Keep No w w' ∧
      Nr w w' n z RT A P ka va ca S (H.takeId (H.takeSt s 4) (n : Nat)) (H.takeId (H.takeSt (H.takeSt s 4) (n : Nat)) (3 * (z : Nat))) := by
  obtain ⟨m, rfl, hm, hz⟩ := o.hy
  rw [o.es, o.ex]
  exact rnew_good h hc iv n m z o.hn hm hz o.hz.le o.e1 o.e2 o.e3
/-- Both tables behind begin: the program's blocks lie below M, the reference's from M on. -/
structure Bgn (w w' : World) (M T A b a S hb RT RA P ka va ca G n z : Nat) (t : TS) (s : H.St) : Prop where
  tt : TT (fun g => g < w.heap.size ∨ (M ≤ g ∧ g < w'.heap.size)) w' T A b a S hb 3 t s
  rh : RH (fun g => g < M ∨ g = RT ∨ g = RA ∨ g = P ∨ g = ka ∨ g = va ∨ g = ca) w' G 3 s
  nr : ∃ W, M ≤ W.heap.size ∧ Nr W w' n z RT RA P ka va ca G t.sb t.nb
  bel : Below w.heap.size w w'
  le : w.heap.size ≤ M
  iv : H.Inv 0 s
  et : t = newT n z t.sb t.nb
  rt : Rt z
  en : n ≤ 65536
set_option maxRecDepth 20000 in
set_option maxHeartbeats 4000000 in
theorem begin_ok (l x y : Int) (a : Option Addr) (n cap : Nat) (w : World) (h0 : 0 ≤ l) (h1 : l ≤ 400000) (he : nE (H.newSt l) x y = 0) :
    Calls Try.prog 8 #[cv l x y (.slice a n cap)] w fun e w' => ∃ M T A b a' S hb RT RA P ka va ca G n' z t, e = .returned (.tuple #[tp T, tp S, tp RT, .bool true]) ∧ Bgn w w' M T A b a' S hb RT RA P ka va ca G n' z t (nS (H.newSt l) x y) ∧ Okn (H.newSt l) x y n' z ∧ t.sb = H.takeId (H.takeSt (H.newSt l) 4) (n' : Nat) ∧ t.nb = H.takeId (H.takeSt (H.takeSt (H.newSt l) 4) (n' : Nat)) (3 * (z : Nat)) := by
  have iv := H.Inv.new l h0 h1
  have C1 := fun W => H.new_walk W l h0 h1
  have B0 := b1 w (.cells #[.int .i64 l, .int .i64 x, .int .i64 y, .slice a n cap] 24)
  have c0 : (w.alloc (.cells #[.int .i64 l, .int .i64 x, .int .i64 y, .slice a n cap] 24)).heap[w.heap.size]? = some (.cells #[.int .i64 l, .int .i64 x, .int .i64 y, .slice a n cap] 24) := (MapKept.heap_alloc w _).1
  have e0 : (w.alloc (.cells #[.int .i64 l, .int .i64 x, .int .i64 y, .slice a n cap] 24)).heap.size = w.heap.size + 1 := by simp
  obtain ⟨W0, hW0⟩ : ∃ W0, w.alloc (.cells #[.int .i64 l, .int .i64 x, .int .i64 y, .slice a n cap] 24) = W0 := ⟨_, rfl⟩
  rw [hW0] at B0 c0 e0
  have hp := new_hp W0 l (fun g => g < W0.heap.size) (fun g q => q)
  have B1 := b2 W0 (.map #[] 0) (.cells #[.int .i64 l, .int .i64 0, .int .i64 0, .slice none 0 0, .map (some W0.heap.size)] 85)
  have C1' := C1 W0
  obtain ⟨W1, hW1⟩ : ∃ W1, (W0.alloc (.map #[] 0)).alloc (.cells #[.int .i64 l, .int .i64 0, .int .i64 0, .slice none 0 0, .map (some W0.heap.size)] 85) = W1 := ⟨_, rfl⟩
  rw [hW1] at hp B1 C1'
  obtain ⟨n', z, hok⟩ := okn he
  have C2 := hok.new hp (by omega) iv
  have HKc : Hid (∀ W, Keep (fun g => g < W0.heap.size) W1 W → W.heap[w.heap.size]? = some (.cells #[.int .i64 l, .int .i64 x, .int .i64 y, .slice a n cap] 24) ∧ Below w.heap.size w W) := fun W k => by
    have l0 : w.heap.size < W1.heap.size := by have := B1.size; omega
    refine ⟨(k.block _ l0 (by show _ < _; omega)).trans ((B1.block _ (by omega)).trans c0), ?_⟩
    exact bthen B0 B0.size (B1.trans (k.below (by have := B1.size; omega) (fun g hg => hg)))
  have HC3 : Hid (∀ W : World, RH (fun g => g < W.heap.size) (W.alloc (.cells #[.int .i64 l, .int .i64 0, .int .i64 0, .slice none 0 0] 70)) W.heap.size 0 (H.newSt l)) := fun W => new_rh W l _ (fun g q => q)
  have hx0 := HKc.out W1 (Keep.refl _ _)
  have x0 : W1.cell? ⟨w.heap.size, 0, none⟩ = some (.int .i64 l) := cell_of_row hx0.1 0
  have x1 : W1.cell? ⟨w.heap.size, 1, none⟩ = some (.int .i64 x) := cell_of_row hx0.1 1
  have x2 : W1.cell? ⟨w.heap.size, 2, none⟩ = some (.int .i64 y) := cell_of_row hx0.1 2
  have y0 : W0.cell? ⟨w.heap.size, 0, none⟩ = some (.int .i64 l) := cell_of_row c0 0
  have HOK : Hid (Okn (H.newSt l) x y n' z) := hok
  have HIv : Hid (H.Inv 0 (H.newSt l)) := iv
  have HS1 : Hid (H.Inv 0 (nS (H.newSt l) x y)) := nS_inv iv x y
  generalize hS : W0.heap.size + 1 = S at *
  have HSe : Hid (W0.heap.size + 1 = S) := hS
  clear B0 B1 c0 C1 hp iv hx0
  unfold cv
  go_enter Try.func8, Try.ntmps8
  go_wp2_with fail
  refine C1'.mono ?_; rintro e w1 ⟨rfl, hw1⟩; rw [hw1]; clear hw1 C1'
  go_wp2_with fail
  refine C2.mono ?_; rintro e W2 ⟨T, A, b, a', rfl, tt2, kk2⟩
  have hx2 := HKc.out W2 kk2
  obtain ⟨v2, hp2⟩ := tt2.hp
  have hS2 := hp2.str
  have hiv := HS1.out
  have B3 := b1 W2 (.cells #[.int .i64 l, .int .i64 0, .int .i64 0, .slice none 0 0] 70)
  have e3 : (W2.alloc (.cells #[.int .i64 l, .int .i64 0, .int .i64 0, .slice none 0 0] 70)).heap.size = W2.heap.size + 1 := by simp
  have rh := HC3.out W2
  obtain ⟨W3, hW3⟩ : ∃ W3, W2.alloc (.cells #[.int .i64 l, .int .i64 0, .int .i64 0, .slice none 0 0] 70) = W3 := ⟨_, rfl⟩
  rw [hW3] at B3 rh e3
  have C4 := HOK.out.rnew rh (by omega) HIv.out
  have z0 : W2.cell? ⟨w.heap.size, 0, none⟩ = some (.int .i64 l) := cell_of_row hx2.1 0
  have hl2 : w.heap.size < W2.heap.size := (Array.getElem?_eq_some_iff.1 hx2.1).1
  have hx3 := (B3.block _ hl2).trans hx2.1
  have z1 : W3.cell? ⟨w.heap.size, 1, none⟩ = some (.int .i64 x) := cell_of_row hx3 1
  have z2 : W3.cell? ⟨w.heap.size, 2, none⟩ = some (.int .i64 y) := cell_of_row hx3 2
  have hlS : S < W2.heap.size := (Array.getElem?_eq_some_iff.1 hS2).1
  have HS3 : Hid (∀ W, Keep (fun g => g < W2.heap.size) W3 W → W.heap[S]? = some (.cells #[.int .i64 (nS (H.newSt l) x y).lim, .int .i64 (nS (H.newSt l) x y).live, .int .i64 (nS (H.newSt l) x y).laid, v2, .map (some W0.heap.size)] 85 (0, 0)) ∧ Below w.heap.size w W) := fun W k =>
    ⟨(k.block S (by have := B3.size; omega) hlS).trans ((B3.block S hlS).trans hS2), hx2.2.trans ((B3.mono (by omega)).trans ((k.below (by have := B3.size; omega) (fun g hg => hg)).mono (by omega)))⟩
  have HT3 : Hid (∀ W, Keep (fun g => g < W2.heap.size) W3 W → TT (fun g => g < w.heap.size ∨ (W2.heap.size ≤ g ∧ g < W.heap.size)) W T A b a' S W0.heap.size 3 (newT n' z (H.takeId (H.takeSt (H.newSt l) 4) (n' : Nat)) (H.takeId (H.takeSt (H.takeSt (H.newSt l) 4) (n' : Nat)) (3 * (z : Nat)))) (nS (H.newSt l) x y)) := fun W k => by
    have t3 := tt2.news B3
    refine (t3.frame2 k.os k.tape k.output k.size (fun g hg hn => k.block g hg ?_)).sub (fun g q => ?_)
    · rcases Nat.lt_or_ge g W2.heap.size with q | q
      · exact q
      · exact absurd (.inr ⟨q, hg⟩) hn
    · have := k.size
      rcases q with q | q
      · exact .inl (.inl (by show g < W0.heap.size; omega))
      · rcases Nat.lt_or_ge g W3.heap.size with q2 | q2
        · exact .inl (.inr ⟨q.1, q2⟩)
        · exact .inr ⟨q2, q.2⟩
  have HM : Hid (w.heap.size ≤ W2.heap.size ∧ W2.heap.size ≤ W3.heap.size) := ⟨by omega, by omega⟩
  generalize hG : W2.heap.size = G at *
  clear C2 hp2 kk2 hx2 hS2 rh B3 hx3 x0 x1 x2 y0 tt2
  go_wp2_with fail
  refine C4.mono ?_; rintro e W4 ⟨RT, RA, P, ka, va, ca, rfl, rh4, kk4, nr4⟩
  have hs4 := HS3.out W4 kk4
  have C5 : Calls Try.prog 18 #[.pointer (some ⟨S, 0, none⟩)] W4 fun e w' => e = .returned (.int .i64 (nS (H.newSt l) x y).live) ∧ w' = W4 := H.live_any _ S _ (H.cell_row hs4.1 1)
  have C6 : Calls Try.prog 29 #[.pointer (some ⟨S, 0, none⟩)] W4 fun e w' => e = .returned (.int .i64 (nS (H.newSt l) x y).laid) ∧ w' = W4 := H.laid_any _ S _ (H.cell_row hs4.1 2)
  have C7 : Calls Try.prog 28 #[.pointer (some ⟨G, 0, none⟩)] W4 fun e w' => e = .returned (.int .i64 (nS (H.newSt l) x y).live) ∧ w' = W4 := rlv_any rh4 (by omega) hiv
  have C8 : Calls Try.prog 30 #[.pointer (some ⟨G, 0, none⟩)] W4 fun e w' => e = .returned (.int .i64 (nS (H.newSt l) x y).laid) ∧ w' = W4 := rld_any rh4 (by omega) hiv
  have HBG : Hid (Bgn w W4 G T A b a' S W0.heap.size RT RA P ka va ca G n' z (newT n' z (H.takeId (H.takeSt (H.newSt l) 4) (n' : Nat)) (H.takeId (H.takeSt (H.takeSt (H.newSt l) 4) (n' : Nat)) (3 * (z : Nat)))) (nS (H.newSt l) x y)) :=
    ⟨HT3.out W4 kk4, rh4, ⟨W3, HM.out.2, nr4⟩, hs4.2, HM.out.1, hiv, rfl, HOK.out.hz, HOK.out.hn⟩
  clear C4 rh4 kk4 hs4 HS3 HT3 z0 z1 z2 hiv nr4
  generalize (nS (H.newSt l) x y).live = lv at *
  generalize (nS (H.newSt l) x y).laid = ld at *
  go_wp2_with fail
  refine C5.mono ?_; rintro e w5 ⟨rfl, hw5⟩; rw [hw5]; clear hw5 C5
  go_wp2_with fail
  refine C7.mono ?_; rintro e w5 ⟨rfl, hw5⟩; rw [hw5]; clear hw5 C7
  go_wp2_with fail
  refine C6.mono ?_; rintro e w5 ⟨rfl, hw5⟩; rw [hw5]; clear hw5 C6
  go_wp2_with fail
  refine C8.mono ?_; rintro e w5 ⟨rfl, hw5⟩; rw [hw5]; clear hw5 C8
  go_wp2_with fail
  refine bodyPost_ret (v := .tuple #[.pointer (some ⟨T, 0, none⟩), .pointer (some ⟨S, 0, none⟩), .pointer (some ⟨RT, 0, none⟩), .bool true]) (by simp [results, Try.results8, go_sem]) rfl ⟨_, _, _, _, _, _, _, _, _, _, _, _, _, _, _, _, _, rfl, HBG.out, HOK.out, rfl, rfl⟩
end Go.Proofs.Ytonopchpnhninab

/- The pure part of a table, on: a Set is a map's. -/
namespace Go.Proofs.Ytonopchpnhninab
open Go.RowKit

theorem tset_map {t : TS} {s : H.St} {k v : V} (h : TI t.p) (hr : Rng k) :
    ((tset t s k v).2.2 = 0 → KOK k ∧ fm v = true ∧ pget (tset t s k v).1.p k = v ∧ ∀ k', KOK k' → k' ≠ k → pget (tset t s k v).1.p k' = pget t.p k') ∧
    ((tset t s k v).2.2 ≠ 0 → ∀ k', pget (tset t s k v).1.p k' = pget t.p k') := by
  unfold tset
  by_cases hf : fm k = true ∧ fm v = true
  · rw [if_neg (fun q => q hf)]
    by_cases hk0 : k.1 = 0
    · rw [if_pos hk0]
      exact ⟨fun q => absurd (show (9 : Int) = 0 from q) (by decide), fun _ _ => rfl⟩
    · rw [if_neg hk0]
      have hk : KOK k := ⟨hf.1, hk0, hr.1, hr.2⟩
      by_cases he : (pset t.p k v).2.2 = 12
      · rw [if_neg (fun q => q he)]
        obtain ⟨hA, hv, hv0, hnew, hfull, hg, hp, ha⟩ := h.full hk he
        have hb : ∀ k', pget (pset t.p k v).1 k' = pget t.p k' := pset_bad (by rw [he]; decide)
        have h1 : TI (pset t.p k v).1 := h.set hr hv
        have ep : (one t k v).p = (pset t.p k v).1 := rfl
        have hA1 : ¬ inA (pset t.p k v).1.n k := by rw [(pset_nz t.p k v).1]; exact hA
        have hnew1 : ∀ i, i < (pset t.p k v).1.z → (pset t.p k v).1.g.K i ≠ k := fun i hi e => by
          have hz := (pset_nz t.p k v).2
          rw [hz] at hi
          have e1 : pset t.p k v = ({ t.p with g := (put t.p.z t.p.g k v).1 }, (put t.p.z t.p.g k v).2.1, (put t.p.z t.p.g k v).2.2) := by unfold pset; rw [if_neg hA]
          have he' : (put t.p.z t.p.g k v).2.2 = 12 := by rw [e1] at he; exact he
          have e2 := (put_12 h.inv h.rt hk he').2.2.2.2.1
          rw [e1] at e
          have e3 : (put t.p.z t.p.g k v).1.K i = k := e
          rw [e2] at e3
          exact hnew i hi e3
        generalize one t k v = u at *
        by_cases hR : (reh u s k).2.2 = 0
        · rw [if_neg (fun q => q hR)]
          have e0 : rsE u.p k = 0 := by
            unfold reh at hR
            by_cases q : rsE u.p k = 0
            · exact q
            · rw [if_pos q] at hR; exact absurd hR q
          have e1 : (reh u s k).1.p = fill u.p (fresh (rsA u.p k) (rsZ u.p k)) := by
            unfold reh at hR ⊢
            rw [if_neg (fun q => q e0)] at hR ⊢
            by_cases q : tpE s (rsA u.p k) (rsZ u.p k) = 0
            · rw [if_neg (fun x => x q)]
            · rw [if_pos q] at hR; exact absurd hR q
          rw [← ep] at ha h1 hA1 hnew1 hb
          obtain ⟨_, i1, i2, i3, i4, i5⟩ := h1.behind hk hv hv0 hA1 hnew1 ha e0
          rw [e1]
          obtain ⟨m1, m2⟩ := i1.map hk i5
          exact ⟨fun _ => ⟨hk, hv, m1, fun k' hk' hne => (m2 k' hk' hne).trans ((i4 k' hk').trans (hb k'))⟩, fun q => absurd i5 q⟩
        · rw [if_pos hR]
          refine ⟨fun q => absurd q hR, fun _ k' => ?_⟩
          have e1 : (reh u s k).1 = u := by
            unfold reh at hR ⊢
            by_cases q : rsE u.p k = 0
            · rw [if_neg (fun x => x q)] at hR ⊢
              by_cases q2 : tpE s (rsA u.p k) (rsZ u.p k) = 0
              · rw [if_neg (fun x => x q2)] at hR; exact absurd rfl hR
              · rw [if_pos q2]
            · rw [if_pos q]
          rw [e1, ep]
          exact hb k'
      · rw [if_pos he]
        refine ⟨fun q => ?_, fun q k' => pset_bad q k'⟩
        obtain ⟨m1, m2⟩ := h.map hk q
        exact ⟨hk, hf.2, m1, m2⟩
  · rw [if_pos hf]
    exact ⟨fun q => absurd (show (2 : Int) = 0 from q) (by decide), fun _ _ => rfl⟩
end Go.Proofs.Ytonopchpnhninab

/- The pure part of a heap, on: which block is whose; what a table holds of it. -/
namespace Go.Proofs.Ytonopchpnhninab
open Go.RowKit

/-- The block id is taken and has n cells; or there is none, for no cells. -/
def Blk (s : H.St) (id n : Int) : Prop := (n = 0 ∧ id = 0) ∨ (1 ≤ n ∧ ∃ k : Nat, id = (k : Int) + 1 ∧ s.bl[k]? = some (n, true))
theorem setT_at {l : List (Int × Bool)} {k : Nat} {n : Int} {b : Bool} (h : l[k]? = some (n, b)) (t : Bool) (j : Nat) : (H.setT l k t)[j]? = if j = k then some (n, t) else l[j]? := by
  have hk : k < l.length := (List.getElem?_eq_some_iff.1 h).1
  have e : l.getD k (0, false) = (n, b) := by rw [List.getD, h]; rfl
  unfold H.setT
  rw [e, List.getElem?_set]
  by_cases q : k = j
  · rw [if_pos q, if_pos hk, if_pos q.symm]
  · rw [if_neg q, if_neg (fun e => q e.symm)]
theorem blk_take {sp : Int} {s : H.St} {n : Int} (h : H.Inv sp s) (he : H.takeE s n = 0) :
    Blk (H.takeSt s n) (H.takeId s n) n ∧ (H.takeSt s n).live = s.live + n ∧ (H.takeSt s n).lim = s.lim ∧ ∀ id m, Blk s id m → Blk (H.takeSt s n) id m ∧ (id = H.takeId s n → id = 0) := by
  have h0 : ¬ n < 0 := fun q => by unfold H.takeE at he; rw [if_pos q] at he; cases he
  have h1 : ¬ s.lim - s.live < n := fun q => by unfold H.takeE at he; rw [if_neg h0, if_pos q] at he; cases he
  by_cases hz : n = 0
  · have e1 : H.takeSt s n = s := by unfold H.takeSt; rw [if_neg h0, if_neg h1, if_pos hz]
    have e2 : H.takeId s n = 0 := by unfold H.takeId; rw [if_neg h0, if_neg h1, if_pos hz]
    rw [e1, e2]
    exact ⟨.inl ⟨hz, rfl⟩, by omega, rfl, fun id m q => ⟨q, fun e => e⟩⟩
  · rcases List.eq_nil_or_concat (s.R n) with hR | ⟨zs, x, hR⟩
    · obtain ⟨e1, e2, _⟩ := H.take_new (s := s) (n := n) (by omega) (by omega) hR
      rw [e1, e2]
      refine ⟨.inr ⟨by omega, s.bl.length, rfl, by simp⟩, rfl, rfl, fun id m q => ?_⟩
      rcases q with ⟨q1, q2⟩ | ⟨q1, k, q2, q3⟩
      · exact ⟨.inl ⟨q1, q2⟩, fun e => by omega⟩
      · have hk : k < s.bl.length := (List.getElem?_eq_some_iff.1 q3).1
        exact ⟨.inr ⟨q1, k, q2, by show (s.bl ++ [(n, true)])[k]? = _; rw [List.getElem?_append_left hk]; exact q3⟩, fun e => by omega⟩
    · rw [List.concat_eq_append] at hR
      obtain ⟨k, rfl, hk, hb⟩ := h.ids n x (by rw [hR]; simp)
      obtain ⟨e1, e2, _⟩ := H.take_old (s := s) (n := n) (by omega) (by omega) hR
      have hb' : s.bl[k]? = some (n, false) := by rw [List.getElem?_eq_getElem hk, hb]
      rw [e1, e2]
      refine ⟨.inr ⟨by omega, k, rfl, by show (H.setT s.bl k true)[k]? = _; rw [setT_at hb', if_pos rfl]⟩, rfl, rfl, fun id m q => ?_⟩
      rcases q with ⟨q1, q2⟩ | ⟨q1, k', q2, q3⟩
      · exact ⟨.inl ⟨q1, q2⟩, fun e => by omega⟩
      · have hne : k' ≠ k := fun e => by rw [e, hb'] at q3; cases q3
        exact ⟨.inr ⟨q1, k', q2, by show (H.setT s.bl k true)[k']? = _; rw [setT_at hb', if_neg hne]; exact q3⟩, fun e => by omega⟩
theorem blk_give {s : H.St} {id n : Int} (h : Blk s id n) : (H.giveSt s id).live = s.live - n ∧ (H.giveSt s id).lim = s.lim ∧ ∀ id' m, Blk s id' m → (id' = id → id' = 0) → Blk (H.giveSt s id) id' m := by
  rcases h with ⟨rfl, rfl⟩ | ⟨h1, k, rfl, hb⟩
  · rw [(H.give_zero s).2]
    exact ⟨by omega, rfl, fun _ _ q _ => q⟩
  · have hk : k < s.bl.length := (List.getElem?_eq_some_iff.1 hb).1
    have hb2 : s.bl[k]'hk = (n, true) := (List.getElem?_eq_some_iff.1 hb).2
    rw [(H.give_at hk (by rw [hb2])).2]
    refine ⟨by show s.live - (s.bl[k]'hk).1 = _; rw [hb2], rfl, fun id' m q hne => ?_⟩
    rcases q with q | ⟨q1, k', q2, q3⟩
    · exact .inl q
    · have hne' : k' ≠ k := fun e => by have := hne (by omega); omega
      exact .inr ⟨q1, k', q2, by show (H.setT s.bl k false)[k']? = _; rw [setT_at hb, if_neg hne']; exact q3⟩

theorem flA_nz (old : Pa) (s : Nat) (p : Pa) (m : Nat) : (flA old s p m).n = p.n ∧ (flA old s p m).z = p.z := by
  induction m with
  | zero => exact ⟨rfl, rfl⟩
  | succ m ih => rw [flA, (stp_nz _ _ _).1, (stp_nz _ _ _).2]; exact ih
theorem flH_nz (old p : Pa) (m : Nat) : (flH old p m).n = p.n ∧ (flH old p m).z = p.z := by
  induction m with
  | zero => exact ⟨rfl, rfl⟩
  | succ m ih => rw [flH, (stp_nz _ _ _).1, (stp_nz _ _ _).2]; exact ih
theorem fill_nz (old p : Pa) : (fill old p).n = p.n ∧ (fill old p).z = p.z := by
  unfold fill
  rw [(flH_nz _ _ _).1, (flH_nz _ _ _).2, (flA_nz _ _ _ _).1, (flA_nz _ _ _ _).2]
  exact ⟨rfl, rfl⟩

/-- What a table holds of the heap s: its two parts' blocks, and L cells beside them are taken. -/
structure TB (t : TS) (s : H.St) (L : Int) : Prop where
  b1 : Blk s t.sb (t.p.n : Nat)
  b2 : Blk s t.nb (3 * (t.p.z : Nat))
  ne : t.sb = t.nb → t.sb = 0
  live : s.live = L + (t.p.n : Nat) + 3 * (t.p.z : Nat)
theorem tp_cases (s : H.St) (A Z : Int) : (H.takeE s A ≠ 0 ∧ tpE s A Z = H.takeE s A ∧ tpS s A Z = s) ∨
    (H.takeE s A = 0 ∧ H.takeE (H.takeSt s A) (3 * Z) ≠ 0 ∧ tpE s A Z = H.takeE (H.takeSt s A) (3 * Z) ∧ tpS s A Z = H.giveSt (H.takeSt s A) (H.takeId s A)) ∨
    (H.takeE s A = 0 ∧ H.takeE (H.takeSt s A) (3 * Z) = 0 ∧ tpE s A Z = 0 ∧ tpS s A Z = H.takeSt (H.takeSt s A) (3 * Z)) := by
  unfold tpE tpS
  by_cases h : H.takeE s A = 0
  · right
    rw [if_neg (fun q => q h), if_neg (fun q => q h)]
    by_cases h2 : H.takeE (H.takeSt s A) (3 * Z) = 0
    · right; rw [if_neg (fun q => q h2)]; exact ⟨h, h2, h2, rfl⟩
    · left; rw [if_pos h2]; exact ⟨h, h2, rfl, rfl⟩
  · left; rw [if_pos h, if_pos h]; exact ⟨h, rfl, rfl⟩
theorem TB.reh {t : TS} {s : H.St} {L : Int} (h : TB t s L) (iv : H.Inv 0 s) (k : V) : TB (Proofs.Ytonopchpnhninab.reh t s k).1 (Proofs.Ytonopchpnhninab.reh t s k).2.1 L ∧ (Proofs.Ytonopchpnhninab.reh t s k).2.1.lim = s.lim := by
  unfold Proofs.Ytonopchpnhninab.reh
  by_cases he : rsE t.p k = 0
  · rw [if_neg (fun q => q he)]
    generalize rsA t.p k = A
    generalize rsZ t.p k = Z
    rcases tp_cases s (A : Nat) (Z : Nat) with ⟨q1, q2, q3⟩ | ⟨q1, q2, q3, q4⟩ | ⟨q1, q2, q3, q4⟩
    · rw [if_pos (by rw [q2]; exact q1), q3]
      exact ⟨h, rfl⟩
    · rw [if_pos (by rw [q3]; exact q2), q4]
      obtain ⟨a1, a2, a3, a4⟩ := blk_take iv q1
      obtain ⟨g1, g2, g3⟩ := blk_give a1
      have k1 := a4 _ _ h.b1
      have k2 := a4 _ _ h.b2
      exact ⟨⟨g3 _ _ k1.1 k1.2, g3 _ _ k2.1 k2.2, h.ne, by show (H.giveSt (H.takeSt s (A : Nat)) (H.takeId s (A : Nat))).live = L + (t.p.n : Nat) + 3 * (t.p.z : Nat); rw [g1, a2, h.live]; omega⟩, by show (H.giveSt (H.takeSt s (A : Nat)) (H.takeId s (A : Nat))).lim = s.lim; rw [g2, a3]⟩
    · rw [if_neg (fun q => q q3), q4]
      obtain ⟨a1, a2, a3, a4⟩ := blk_take iv q1
      obtain ⟨c1, c2, c3, c4⟩ := blk_take (iv.take _) q2
      have k1 := a4 _ _ h.b1
      have k2 := a4 _ _ h.b2
      have m1 := c4 _ _ k1.1
      have m2 := c4 _ _ k2.1
      have m3 := c4 _ _ a1
      obtain ⟨g1, g2, g3⟩ := blk_give m1.1
      have n2 := g3 _ _ m2.1 (fun e => by have := h.ne e.symm; omega)
      have n3 := g3 _ _ m3.1 (fun e => by have := k1.2 e.symm; omega)
      have n4 := g3 _ _ c1 (fun e => by have := m1.2 e.symm; omega)
      obtain ⟨f1, f2, f3⟩ := blk_give n2
      have p3 := f3 _ _ n3 (fun e => by have := k2.2 e.symm; omega)
      have p4 := f3 _ _ n4 (fun e => by have := m2.2 e.symm; omega)
      obtain ⟨z1, z2⟩ := fill_nz t.p (fresh A Z)
      have z1' : (fill t.p (fresh A Z)).n = A := z1
      have z2' : (fill t.p (fresh A Z)).z = Z := z2
      refine ⟨⟨?_, ?_, fun e => m3.2 e, ?_⟩, by rw [f2, g2, c3, a3]⟩
      · show Blk _ _ ((fill t.p (fresh A Z)).n : Nat); rw [z1']; exact p3
      · show Blk _ _ (3 * ((fill t.p (fresh A Z)).z : Nat)); rw [z2']; exact p4
      · show _ = L + ((fill t.p (fresh A Z)).n : Nat) + 3 * ((fill t.p (fresh A Z)).z : Nat)
        rw [z1', z2', f1, g1, c2, a2, h.live]; omega
  · rw [if_pos he]; exact ⟨h, rfl⟩
theorem TB.one {t : TS} {s : H.St} {L : Int} (h : TB t s L) (k v : V) (x : Int) : TB { t with p := (pset t.p k v).1, pr := x } s L := by
  obtain ⟨z1, z2⟩ := pset_nz t.p k v
  exact ⟨by show Blk s t.sb ((pset t.p k v).1.n : Nat); rw [z1]; exact h.b1, by show Blk s t.nb (3 * ((pset t.p k v).1.z : Nat)); rw [z2]; exact h.b2, h.ne, by show _ = L + ((pset t.p k v).1.n : Nat) + 3 * ((pset t.p k v).1.z : Nat); rw [z1, z2]; exact h.live⟩
theorem TB.set {t : TS} {s : H.St} {L : Int} (h : TB t s L) (iv : H.Inv 0 s) (k v : V) : TB (tset t s k v).1 (tset t s k v).2.1 L ∧ (tset t s k v).2.1.lim = s.lim := by
  unfold tset
  split
  · exact ⟨h, rfl⟩
  · split
    · exact ⟨h, rfl⟩
    · split
      · exact ⟨h.one k v _, rfl⟩
      · obtain ⟨r1, r2⟩ := (show TB (Proofs.Ytonopchpnhninab.one t k v) s L from h.one k v _).reh iv k
        split
        · exact ⟨r1, r2⟩
        · exact ⟨r1.one k v _, r2⟩
end Go.Proofs.Ytonopchpnhninab

/- What a new table holds of its heap. -/
namespace Go.Proofs.Ytonopchpnhninab
open Go.RowKit
theorem Okn.tb {s : H.St} {x y : Int} {n z : Nat} (o : Okn s x y n z) (iv : H.Inv 0 s) {t : TS} (et : t = newT n z t.sb t.nb) (e1 : t.sb = H.takeId (H.takeSt s 4) (n : Nat)) (e2 : t.nb = H.takeId (H.takeSt (H.takeSt s 4) (n : Nat)) (3 * (z : Nat))) : TB t (nS s x y) (s.live + 4) := by
  obtain ⟨m, rfl, hm, hz⟩ := o.hy
  have hn : t.p.n = n := by rw [et]; rfl
  have hzz : t.p.z = z := by rw [et]; rfl
  have hin : inP x ∧ inP (m : Int) := by
    rw [o.ex]
    exact ⟨⟨by omega, by have := o.hn; omega⟩, ⟨by omega, by omega⟩⟩
  have eS : nS s x (m : Nat) = H.takeSt (H.takeSt (H.takeSt s 4) (n : Nat)) (3 * (z : Nat)) := by
    unfold nS
    rw [if_neg (fun q => q hin), if_neg (fun q => q o.e1), hz, o.ex]
    obtain ⟨q1, q2⟩ | ⟨q1, q2, q3, q4⟩ | ⟨q1, q2, q3, q4⟩ := tp_cases (H.takeSt s 4) (n : Nat) (z : Nat)
    · exact absurd o.e2 q1
    · exact absurd o.e3 q2
    · rw [if_neg (fun q => q q3), q4]
  obtain ⟨a1, a2, a3, a4⟩ := blk_take iv o.e1
  obtain ⟨c1, c2, c3, c4⟩ := blk_take (iv.take 4) o.e2
  obtain ⟨d1, d2, d3, d4⟩ := blk_take ((iv.take 4).take (n : Nat)) o.e3
  have m1 := d4 _ _ c1
  rw [eS]
  refine ⟨by rw [hn, e1]; exact m1.1, by rw [hzz, e2]; exact d1, fun e => ?_, by rw [d2, c2, a2, hn, hzz]⟩
  rw [e1] at e ⊢
  rw [e2] at e
  exact m1.2 e
end Go.Proofs.Ytonopchpnhninab

/- The pure part of a heap, on: another's blocks stay what they are behind a table's Set and New; two tables on one heap. -/
namespace Go.Proofs.Ytonopchpnhninab
open Go.RowKit

/-- The block id of m cells is another's than t's. -/
def Ot (t : TS) (s : H.St) (id m : Int) : Prop := Blk s id m ∧ (id = t.sb → id = 0) ∧ (id = t.nb → id = 0)
theorem TB.reh_ot {t : TS} {s : H.St} {L id m : Int} (h : TB t s L) (iv : H.Inv 0 s) (k : V) (o : Ot t s id m) : Ot (Proofs.Ytonopchpnhninab.reh t s k).1 (Proofs.Ytonopchpnhninab.reh t s k).2.1 id m := by
  unfold Proofs.Ytonopchpnhninab.reh
  by_cases he : rsE t.p k = 0
  · rw [if_neg (fun q => q he)]
    generalize rsA t.p k = A
    generalize rsZ t.p k = Z
    rcases tp_cases s (A : Nat) (Z : Nat) with ⟨q1, q2, q3⟩ | ⟨q1, q2, q3, q4⟩ | ⟨q1, q2, q3, q4⟩
    · rw [if_pos (by rw [q2]; exact q1), q3]
      exact o
    · rw [if_pos (by rw [q3]; exact q2), q4]
      obtain ⟨a1, a2, a3, a4⟩ := blk_take iv q1
      obtain ⟨g1, g2, g3⟩ := blk_give a1
      have k1 := a4 _ _ o.1
      exact ⟨g3 _ _ k1.1 k1.2, o.2⟩
    · rw [if_neg (fun q => q q3), q4]
      obtain ⟨a1, a2, a3, a4⟩ := blk_take iv q1
      obtain ⟨c1, c2, c3, c4⟩ := blk_take (iv.take _) q2
      have k1 := a4 _ _ h.b1
      have k2 := a4 _ _ h.b2
      have k3 := a4 _ _ o.1
      have m1 := c4 _ _ k1.1
      have m2 := c4 _ _ k2.1
      have m3 := c4 _ _ k3.1
      obtain ⟨g1, g2, g3⟩ := blk_give m1.1
      have n2 := g3 _ _ m2.1 (fun e => by have := h.ne e.symm; omega)
      have n3 := g3 _ _ m3.1 o.2.1
      obtain ⟨f1, f2, f3⟩ := blk_give n2
      exact ⟨f3 _ _ n3 o.2.2, k3.2, m3.2⟩
  · rw [if_pos he]; exact o
theorem TB.set_ot {t : TS} {s : H.St} {L id m : Int} (h : TB t s L) (iv : H.Inv 0 s) (k v : V) (o : Ot t s id m) : Ot (tset t s k v).1 (tset t s k v).2.1 id m := by
  unfold tset
  split
  · exact o
  · split
    · exact o
    · split
      · exact o
      · have r1 := (show TB (Proofs.Ytonopchpnhninab.one t k v) s L from h.one k v _).reh_ot iv k (id := id) (m := m) o
        split
        · exact r1
        · exact r1
/-- Two tables on one heap. -/
structure T2b (t u : TS) (s : H.St) (L : Int) : Prop where
  a : TB t s (L + (u.p.n : Nat) + 3 * (u.p.z : Nat))
  b : TB u s (L + (t.p.n : Nat) + 3 * (t.p.z : Nat))
  o1 : Ot t s u.sb (u.p.n : Nat)
  o2 : Ot t s u.nb (3 * (u.p.z : Nat))
theorem T2b.swap {t u : TS} {s : H.St} {L : Int} (h : T2b t u s L) : T2b u t s L :=
  ⟨h.b, h.a, ⟨h.a.b1, fun e => by have := h.o1.2.1 e.symm; omega, fun e => by have := h.o2.2.1 e.symm; omega⟩, ⟨h.a.b2, fun e => by have := h.o1.2.2 e.symm; omega, fun e => by have := h.o2.2.2 e.symm; omega⟩⟩
theorem T2b.set {t u : TS} {s : H.St} {L : Int} (h : T2b t u s L) (iv : H.Inv 0 s) (k v : V) : T2b (tset t s k v).1 u (tset t s k v).2.1 L := by
  have h1 := (h.a.set iv k v).1
  have h2 := h.a.set_ot iv k v h.o1
  have h3 := h.a.set_ot iv k v h.o2
  exact ⟨h1, ⟨h2.1, h3.1, h.b.ne, by rw [h1.live]; omega⟩, h2, h3⟩
/-- Behind a New that answered: the table; another's blocks are another's. -/
theorem Okn.ot {s : H.St} {x y : Int} {n z : Nat} (o : Okn s x y n z) (iv : H.Inv 0 s) {id m : Int} (hb : Blk s id m) : Ot (newT n z (H.takeId (H.takeSt s 4) (n : Nat)) (H.takeId (H.takeSt (H.takeSt s 4) (n : Nat)) (3 * (z : Nat)))) (nS s x y) id m := by
  obtain ⟨a1, a2, a3, a4⟩ := blk_take iv o.e1
  obtain ⟨c1, c2, c3, c4⟩ := blk_take (iv.take 4) o.e2
  obtain ⟨d1, d2, d3, d4⟩ := blk_take ((iv.take 4).take (n : Nat)) o.e3
  rw [o.es]
  have k1 := a4 _ _ hb
  have k2 := c4 _ _ k1.1
  have k3 := d4 _ _ k2.1
  exact ⟨k3.1, k2.2, k3.2⟩
/-- A New that is refused leaves no cells; others' blocks stay. -/
theorem nS_bad {s : H.St} {x y : Int} (iv : H.Inv 0 s) (he : nE s x y ≠ 0) : (nS s x y).live = s.live ∧ ∀ id m, Blk s id m → Blk (nS s x y) id m := by
  unfold nE at he
  unfold nS
  by_cases hin : inP x ∧ inP y
  · rw [if_neg (fun q => q hin)] at he ⊢
    by_cases h4 : H.takeE s 4 = 0
    · rw [if_neg (fun q => q h4)] at he ⊢
      obtain ⟨a1, a2, a3, a4⟩ := blk_take iv h4
      rw [if_pos he]
      rcases tp_cases (H.takeSt s 4) x (C.up2 y) with ⟨q1, q2, q3⟩ | ⟨q1, q2, q3, q4⟩ | ⟨q1, q2, q3, q4⟩
      · rw [q3]
        obtain ⟨g1, g2, g3⟩ := blk_give a1
        exact ⟨by omega, fun id m q => g3 _ _ (a4 _ _ q).1 (a4 _ _ q).2⟩
      · rw [q4]
        obtain ⟨c1, c2, c3, c4⟩ := blk_take (iv.take 4) q1
        obtain ⟨g1, g2, g3⟩ := blk_give c1
        have m1 := c4 _ _ a1
        have n1 := g3 _ _ m1.1 m1.2
        obtain ⟨f1, f2, f3⟩ := blk_give n1
        refine ⟨by omega, fun id m q => ?_⟩
        have k1 := a4 _ _ q
        have k2 := c4 _ _ k1.1
        exact f3 _ _ (g3 _ _ k2.1 k2.2) k1.2
      · exact absurd q3 he
    · rw [if_pos h4]; exact ⟨rfl, fun _ _ q => q⟩
  · rw [if_pos hin]; exact ⟨rfl, fun _ _ q => q⟩
end Go.Proofs.Ytonopchpnhninab
