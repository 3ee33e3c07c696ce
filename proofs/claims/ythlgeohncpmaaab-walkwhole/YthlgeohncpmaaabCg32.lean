/- The walks of has and all, two helpers of the law WalkWhole. -/
import Derived.Test.YthlgeohncpmaaabCg30
import Derived.Test.YthlgeohncpmaaabCg07
import Derived.Test.YthlgeohncpmaaabCg26
import Derived.BigQuiet
import Derived.Deep.QuietTactic
import Derived.Deep.LoopGhost
import Derived.Test.YthlgeohncpmaaabCg28
import Derived.Test.YthlgeohncpmaaabCg20
namespace Go.Proofs.Ythlgeohncpmaaab
open Go.RowKit

/-- Is it among the first i? -/
def hasN (F : Nat → V) (x : V) : Nat → Bool
  | 0 => false
  | i + 1 => hasN F x i || decide (F i = x)
theorem hasN_iff (F : Nat → V) (x : V) : ∀ n, hasN F x n = true ↔ ∃ i, i < n ∧ F i = x
  | 0 => by simp [hasN]
  | n + 1 => by
    rw [hasN, Bool.or_eq_true, hasN_iff F x n, decide_eq_true_eq]
    constructor
    · rintro (⟨i, h1, h2⟩ | h)
      · exact ⟨i, by omega, h2⟩
      · exact ⟨n, by omega, h⟩
    · rintro ⟨i, h1, h2⟩
      by_cases e : i = n
      · subst e; exact .inr h2
      · exact .inl ⟨i, by omega, h2⟩
theorem hasN_yes {F : Nat → V} {x : V} {n i : Nat} (hi : i < n) (h : F i = x) : hasN F x n = true := (hasN_iff F x n).2 ⟨i, hi, h⟩

set_option maxRecDepth 20000 in
set_option maxHeartbeats 4000000 in
theorem has_any {w : World} {B n : Nat} {v : Value} {F : Nat → V} (x : V) (h : Lv w B v n F) (hn : n ≤ 1000000) :
    Calls Try.prog 15 #[v, vv x] w fun e w' => e = .returned (.bool (hasN F x n)) ∧ Below w.heap.size w w' := by
  have Bk := b1 w (vb x.1 x.2.1 x.2.2)
  have kx := Bx.made w x
  have h1 := h.below Bk
  obtain ⟨W0, hW0⟩ : ∃ W0, w.alloc (vb x.1 x.2.1 x.2.2) = W0 := ⟨_, rfl⟩
  rw [hW0] at Bk kx h1
  unfold vb at hW0
  obtain ⟨a, c, rfl⟩ := h.form
  have HL : Hid (Lv W0 B (.slice a n c) n F) := h1
  have HK : Hid (Bx W0 w.heap.size x) := kx
  clear h h1 kx
  unfold vv vl
  go_enter Try.func15, Try.ntmps15
  go_wp2
  go_loopg [5] (n + 1) (fun gf v5 wx => ∃ i : Nat, v5 = .int .i64 i ∧ Below W0.heap.size W0 wx ∧ i ≤ n ∧ Hid (hasN F x i = false) ∧ n < i + gf)
  case atStart => exact ⟨0, rfl, Below.refl _ _, by omega, rfl, by omega⟩
  case round =>
    obtain ⟨i, rfl, hB, hi, hH, hfu⟩ := hrel
    by_cases hlt : i < n
    · obtain ⟨g2, rfl⟩ : ∃ g2, gk = g2 + 1 := ⟨gk - 1, by omega⟩
      have hi0 : (0 : Int) ≤ (i : Int) := Int.natCast_nonneg _
      have hi1 : (i : Int) < (n : Int) := by omega
      obtain ⟨g, c', e, _, hgl, _, n0, n1, n2⟩ := HL.out.at hlt
      simp only [Value.slice.injEq] at e
      obtain ⟨rfl, _, rfl⟩ := e
      have m0 := (hB.cell (p := ⟨g, i * 3, none⟩) hgl).trans n0
      have m1 := (hB.cell (p := ⟨g, i * 3 + 1, none⟩) hgl).trans n1
      have m2 := (hB.cell (p := ⟨g, i * 3 + 2, none⟩) hgl).trans n2
      have q0 := (hB.cell (p := ⟨w.heap.size, 0, none⟩) HK.out.lt).trans HK.out.c0
      have q1 := (hB.cell (p := ⟨w.heap.size, 1, none⟩) HK.out.lt).trans HK.out.c1
      have q2 := (hB.cell (p := ⟨w.heap.size, 2, none⟩) HK.out.lt).trans HK.out.c2
      have hq : ∀ W', (binOp .eql 33 (vl (F i).1 (F i).2.1 (F i).2.2) (vl x.1 x.2.1 x.2.2)).run Try.prog W' = .ok (.bool (decide (F i = x))) W' := fun W' => by rw [eql32]
      unfold vl at hq
      have hs : hasN F x (i + 1) = (hasN F x i || decide (F i = x)) := rfl
      rw [hH.out, Bool.false_or] at hs
      clear n0 n1 n2 hH
      cases hd : decide (F i = x)
      · rw [hd] at hq hs
        have HS : Hid (hasN F x (i + 1) = false) := hs
        clear hd hs
        go_wp2_with fail
        go_quiet (fail)
        go_wp2
        go_roundg g2
        case measure => omega
        case rel => exact ⟨i + 1, by go_num, hB.trans ⟨rfl, rfl, rfl, Nat.le_refl _, fun _ _ => rfl⟩, by omega, HS, by omega⟩
      · rw [hd] at hq
        have HS : Hid (hasN F x n = true) := hasN_yes hlt (of_decide_eq_true hd)
        have HBz : Hid (Below w.heap.size w wr) := bthen Bk Bk.size hB
        clear hd hs
        go_wp2_with fail
        go_quiet (fail)
        go_wp2
        go_ret
        exact ⟨ret_bool HS.out.symm, bthen HBz.out HBz.out.size ⟨rfl, rfl, rfl, Nat.le_refl _, fun _ _ => rfl⟩⟩
    · have hin : i = n := by omega
      subst hin
      have HBz : Hid (Below w.heap.size w wr) := bthen Bk Bk.size hB
      go_wp2
      go_ret
      exact ⟨ret_bool hH.out.symm, HBz.out⟩

/-- The pairs of a list in memory, from block g on. -/
def Prs (w : World) (l : List (V × V)) (a : Option Addr) : Prop := ∀ i x, l[i]? = some x → ∃ g, a = some ⟨g, 0, none⟩ ∧ g < w.heap.size ∧ w.cell? ⟨g, i * 6, none⟩ = some (.int .i64 x.1.1) ∧ w.cell? ⟨g, i * 6 + 1, none⟩ = some (.int .i64 x.1.2.1) ∧ w.cell? ⟨g, i * 6 + 2, none⟩ = some (.string x.1.2.2)
theorem Prs.below {w w' : World} {l : List (V × V)} {a : Option Addr} (h : Prs w l a) (k : Below w.heap.size w w') : Prs w' l a := fun i x hx => by
  obtain ⟨g, e, hg, h0, h1, h2⟩ := h i x hx
  exact ⟨g, e, Nat.lt_of_lt_of_le hg k.size, (k.cell (p := ⟨g, i * 6, none⟩) hg).trans h0, (k.cell (p := ⟨g, i * 6 + 1, none⟩) hg).trans h1, (k.cell (p := ⟨g, i * 6 + 2, none⟩) hg).trans h2⟩
def keyF (l : List (V × V)) (i : Nat) : V := (l.getD i (nil, nil)).1

set_option maxRecDepth 20000 in
set_option maxHeartbeats 8000000 in
theorem all_any {w : World} {l : List (V × V)} {a1 : Option Addr} {c1 : Nat} (hP : Prs w l a1) {B2 n2 : Nat} {v2 : Value} {G : Nat → V} (h2 : Lv w B2 v2 n2 G) {B3 n3 : Nat} {v3 : Value} {C : Nat → V} (h3 : Lv w B3 v3 n3 C) (hl : l.length ≤ 1000000) (hn2 : n2 ≤ 1000000) (hn3 : n3 ≤ 1000000)
    (H1 : ∀ (i : Nat) (x : V × V), l[i]? = some x → hasN G x.1 n2 = true ∨ hasN C x.1 n3 = true) (H2 : ∀ i, i < n3 → hasN (keyF l) (C i) l.length = true) :
    Calls Try.prog 14 #[.slice a1 l.length c1, v2, v3] w fun e w' => e = .returned (.bool true) ∧ Below w.heap.size w w' := by
  obtain ⟨n, hn⟩ : ∃ n, l.length = n := ⟨_, rfl⟩
  have HN : Hid (l.length = n) := hn
  have HP : Hid (Prs w l a1) := hP
  have HG : Hid (Lv w B2 v2 n2 G) := h2
  have HC : Hid (Lv w B3 v3 n3 C) := h3
  have HH1 : Hid (∀ (i : Nat) (x : V × V), l[i]? = some x → hasN G x.1 n2 = true ∨ hasN C x.1 n3 = true) := H1
  have HH2 : Hid (∀ i, i < n3 → hasN (keyF l) (C i) l.length = true) := H2
  rw [hn] at hl HH2 ⊢
  obtain ⟨x2, y2, rfl⟩ := h2.form
  obtain ⟨x3, y3, rfl⟩ := h3.form
  clear hP h2 h3 H1 H2 hn
  go_enter Try.func14, Try.ntmps14
  go_wp2
  go_loopg [7] (n + 1) (fun gf v7 wx => ∃ i : Nat, v7 = .int .i64 i ∧ Hid (Below w.heap.size w wx) ∧ i ≤ n ∧ n < i + gf)
  case atStart => exact ⟨0, rfl, Below.refl _ _, by omega, by omega⟩
  case round =>
    obtain ⟨i, rfl, hB, hi, hfu⟩ := hrel
    by_cases hlt : i < n
    · obtain ⟨g2, rfl⟩ : ∃ g2, gk = g2 + 1 := ⟨gk - 1, by omega⟩
      have hi0 : (0 : Int) ≤ (i : Int) := Int.natCast_nonneg _
      have hi1 : (i : Int) < (n : Int) := by omega
      obtain ⟨x, hx⟩ : ∃ x, l[i]? = some x := ⟨l[i]'(by rw [HN.out]; exact hlt), by simp⟩
      obtain ⟨g, rfl, hgl, m0, m1, m2⟩ := (HP.out.below hB.out) i x hx
      have CG := has_any x.1 (HG.out.below hB.out) hn2
      unfold vv vl at CG
      cases hg : hasN G x.1 n2
      · have hc := (HH1.out i x hx).resolve_left (by rw [hg]; decide)
        rw [hg] at CG
        have HC2 : Hid (∀ w1, Below wr.heap.size wr w1 → (w1.cell? ⟨g, i * 6, none⟩ = some (.int .i64 x.1.1) ∧ w1.cell? ⟨g, i * 6 + 1, none⟩ = some (.int .i64 x.1.2.1) ∧ w1.cell? ⟨g, i * 6 + 2, none⟩ = some (.string x.1.2.2)) ∧ Calls Try.prog 15 #[.slice x3 n3 y3, vv x.1] w1 fun e w' => e = .returned (.bool (hasN C x.1 n3)) ∧ Below w1.heap.size w1 w') := fun w1 k => ⟨⟨(k.cell (p := ⟨g, i * 6, none⟩) hgl).trans m0, (k.cell (p := ⟨g, i * 6 + 1, none⟩) hgl).trans m1, (k.cell (p := ⟨g, i * 6 + 2, none⟩) hgl).trans m2⟩, has_any x.1 ((HC.out.below hB.out).below k) hn3⟩
        clear hx hg
        go_wp2_with fail
        refine CG.mono ?_; rintro e w1 ⟨rfl, k1⟩
        obtain ⟨⟨p0, p1, p2⟩, CC⟩ := HC2.out w1 k1
        rw [hc] at CC
        unfold vv vl at CC
        clear CG m0 m1 m2
        go_wp2_with fail
        refine CC.mono ?_; rintro e w2 ⟨rfl, k2⟩
        have HB2 : Hid (Below w.heap.size w w2) := bthen (bthen hB.out hB.out.size k1) (Nat.le_trans hB.out.size k1.size) k2
        clear CC p0 p1 p2 k1 k2
        go_wp2_with fail
        go_roundg g2
        case measure => omega
        case rel => exact ⟨i + 1, by go_num, HB2, by omega, by omega⟩
      · rw [hg] at CG
        clear hx hg
        go_wp2_with fail
        refine CG.mono ?_; rintro e w1 ⟨rfl, k1⟩
        have HB2 : Hid (Below w.heap.size w w1) := bthen hB.out hB.out.size k1
        clear CG m0 m1 m2 k1
        go_wp2_with fail
        go_roundg g2
        case measure => omega
        case rel => exact ⟨i + 1, by go_num, HB2, by omega, by omega⟩
    · have hlt' : ¬ (i : Int) < (n : Int) := by omega
      have HBz := hB
      generalize wr = W1 at *
      clear hB
      go_wp2
      go_loopg [8] (n3 + 1) (fun gf v8 wx => ∃ i : Nat, v8 = .int .i64 i ∧ Hid (Below w.heap.size w wx) ∧ i ≤ n3 ∧ n3 < i + gf)
      case atStart => exact ⟨0, rfl, HBz, by omega, by omega⟩
      case round =>
        obtain ⟨q, rfl, hB, hq, hfq⟩ := hrel
        by_cases hlq : q < n3
        · obtain ⟨g3, rfl⟩ : ∃ g3, gk = g3 + 1 := ⟨gk - 1, by omega⟩
          have hq0 : (0 : Int) ≤ (q : Int) := Int.natCast_nonneg _
          have hq1 : (q : Int) < (n3 : Int) := by omega
          obtain ⟨gc, cc, e, _, hgl, _, n0, n1, n2'⟩ := (HC.out.below hB.out).at hlq
          simp only [Value.slice.injEq] at e
          obtain ⟨rfl, _, rfl⟩ := e
          have HQ : Hid (∀ w1, Below wr.heap.size wr w1 → w1.cell? ⟨gc, q * 3, none⟩ = some (.int .i64 (C q).1) ∧ w1.cell? ⟨gc, q * 3 + 1, none⟩ = some (.int .i64 (C q).2.1) ∧ w1.cell? ⟨gc, q * 3 + 2, none⟩ = some (.string (C q).2.2)) := fun w1 k => ⟨(k.cell (p := ⟨gc, q * 3, none⟩) hgl).trans n0, (k.cell (p := ⟨gc, q * 3 + 1, none⟩) hgl).trans n1, (k.cell (p := ⟨gc, q * 3 + 2, none⟩) hgl).trans n2'⟩
          have HW : Hid (hasN (keyF l) (C q) n = true) := by have := HH2.out q hlq; exact this
          have HB1 := hB
          generalize wr = W2 at *
          clear hB n0 n1 n2'
          go_wp2
          go_loopg [9, 10] (n + 1) (fun gf v9 v10 wx => ∃ k : Nat, v10 = .int .i64 k ∧ v9 = .bool (hasN (keyF l) (C q) k) ∧ Hid (Below W2.heap.size W2 wx) ∧ k ≤ n ∧ n < k + gf)
          case atStart => exact ⟨0, rfl, rfl, Below.refl _ _, by omega, by omega⟩
          case round =>
            obtain ⟨k, rfl, rfl, hB, hk, hfk⟩ := hrel
            by_cases hlk : k < n
            · obtain ⟨g4, rfl⟩ : ∃ g4, gk = g4 + 1 := ⟨gk - 1, by omega⟩
              have hk0 : (0 : Int) ≤ (k : Int) := Int.natCast_nonneg _
              have hk1 : (k : Int) < (n : Int) := by omega
              obtain ⟨x, hx⟩ : ∃ x, l[k]? = some x := ⟨l[k]'(by rw [HN.out]; exact hlk), by simp⟩
              have hkx : keyF l k = x.1 := by unfold keyF; rw [List.getD_eq_getElem?_getD, hx]; rfl
              obtain ⟨g, rfl, hgl2, m0, m1, m2⟩ := ((HP.out.below HB1.out).below hB.out) k x hx
              obtain ⟨p0, p1, p2⟩ := HQ.out wr hB.out
              have hqq : ∀ W', (binOp .eql 33 (vl x.1.1 x.1.2.1 x.1.2.2) (vl (C q).1 (C q).2.1 (C q).2.2)).run Try.prog W' = .ok (.bool (decide (x.1 = C q))) W' := fun W' => by rw [eql32]
              unfold vl at hqq
              have hs : hasN (keyF l) (C q) (k + 1) = (hasN (keyF l) (C q) k || decide (x.1 = C q)) := by rw [hasN, hkx]
              clear hx hkx
              cases hh : hasN (keyF l) (C q) k
              · rw [hh, Bool.false_or] at hs
                have HS : Hid (hasN (keyF l) (C q) (k + 1) = decide (x.1 = C q)) := hs
                clear hs hh
                go_wp2_with fail
                go_quiet (fail)
                go_wp2
                go_roundg g4
                case measure => omega
                case rel => exact ⟨k + 1, by go_num, by rw [HS.out], hB.out.trans ⟨rfl, rfl, rfl, Nat.le_refl _, fun _ _ => rfl⟩, by omega, by omega⟩
              · rw [hh, Bool.true_or] at hs
                have HS : Hid (hasN (keyF l) (C q) (k + 1) = true) := hs
                clear hs hh
                go_wp2_with fail
                go_quiet (fail)
                go_wp2
                go_roundg g4
                case measure => omega
                case rel => exact ⟨k + 1, by go_num, by rw [HS.out], hB.out.trans ⟨rfl, rfl, rfl, Nat.le_refl _, fun _ _ => rfl⟩, by omega, by omega⟩
            · have hkn : k = n := by omega
              subst hkn
              have hlk' : ¬ (k : Int) < (k : Int) := by omega
              have hh := HW.out
              rw [hh]
              clear hh
              have HB3 : Hid (Below w.heap.size w wr) := bthen HB1.out HB1.out.size hB.out
              go_wp2
              go_roundg g3
              case measure => omega
              case rel => exact ⟨q + 1, by go_num, HB3, by omega, by omega⟩
        · have hlq' : ¬ (q : Int) < (n3 : Int) := by omega
          go_wp2
          go_ret
          exact ⟨rfl, hB.out⟩
end Go.Proofs.Ythlgeohncpmaaab

/- A traversal over a table whose present keys are set anew or cleared on the way (no program in it): each that was there at the beginning comes once, or was cleared ahead of it. -/
namespace Go.Proofs.Ythlgeohncpmaaab
open Go.RowKit

/-- The next one from a place on: none is left, or the first that is there. -/
theorem nxF_scan (p : Pa) : ∀ (f i : Nat), (nxF p f i = (nil, nil) ∧ ∀ j : Nat, i ≤ j → j < i + f → (prO p j).2.1 = 0) ∨ (∃ j : Nat, i ≤ j ∧ j < i + f ∧ nxF p f i = prO p j ∧ (prO p j).2.1 ≠ 0 ∧ ∀ q : Nat, i ≤ q → q < j → (prO p q).2.1 = 0)
  | 0, i => .inl ⟨rfl, fun j h1 h2 => by omega⟩
  | f + 1, i => by
    rw [nxF]
    by_cases h : (prO p i).2.1 ≠ 0
    · rw [if_pos h]
      exact .inr ⟨i, Nat.le_refl _, by omega, rfl, h, fun q h1 h2 => by omega⟩
    · rw [if_neg h]
      have h0 : (prO p i).2.1 = 0 := by simpa using h
      rcases nxF_scan p f (i + 1) with ⟨a, b⟩ | ⟨j, a1, a2, a3, a4, a5⟩
      · refine .inl ⟨a, fun j h1 h2 => ?_⟩
        by_cases e : j = i
        · rw [e]; exact h0
        · exact b j (by omega) (by omega)
      · refine .inr ⟨j, by omega, by omega, a3, a4, fun q h1 h2 => ?_⟩
        by_cases e : q = i
        · rw [e]; exact h0
        · exact a5 q (by omega) h2

/-- A Set of a key that is there: the parts stay as they are, but for its value. -/
theorem set_at {t : TS} {s : H.St} (ti : TI t.p) {j : Nat} (h0 : 1 ≤ j) (h1 : j ≤ t.p.n + t.p.z) (hv : (prO t.p j).2.1 ≠ 0) {v : V} (hf : fm v = true) :
    (tset t s (prO t.p j).1 v).1.p.n = t.p.n ∧ (tset t s (prO t.p j).1 v).1.p.z = t.p.z ∧ (tset t s (prO t.p j).1 v).1.p.g.K = t.p.g.K ∧ (tset t s (prO t.p j).1 v).1.p.g.C = t.p.g.C ∧
    (prO (tset t s (prO t.p j).1 v).1.p j).2 = v ∧ ∀ q : Nat, q ≠ j → (prO (tset t s (prO t.p j).1 v).1.p q).2 = (prO t.p q).2 := by
  obtain ⟨b1, b2, b3, b4, b5⟩ := plc_prO ti h0 h1 hv
  have key : (pset t.p (prO t.p j).1 v).2.2 = 0 ∧ (pset t.p (prO t.p j).1 v).1.n = t.p.n ∧ (pset t.p (prO t.p j).1 v).1.z = t.p.z ∧ (pset t.p (prO t.p j).1 v).1.g.K = t.p.g.K ∧ (pset t.p (prO t.p j).1 v).1.g.C = t.p.g.C ∧
      (prO (pset t.p (prO t.p j).1 v).1 j).2 = v ∧ ∀ q : Nat, q ≠ j → (prO (pset t.p (prO t.p j).1 v).1 q).2 = (prO t.p q).2 := by
    by_cases q : j ≤ t.p.n
    · obtain ⟨i, rfl⟩ : ∃ i, j = i + 1 := ⟨j - 1, by omega⟩
      have e : (prO t.p ((i + 1 : Nat) : Int)).1 = kn ((i : Int) + 1) := by rw [prO_A h0 q]; simp
      rw [e]
      have hA : inA t.p.n (kn ((i : Int) + 1)) := inA_kn.2 (by omega)
      have hx : ix (kn ((i : Int) + 1)) = i := by unfold ix; simp only; omega
      unfold pset
      rw [if_pos hA, hx]
      refine ⟨rfl, rfl, rfl, rfl, rfl, ?_, fun r hr => ?_⟩
      · rw [prO_A (p := { t.p with F := upd t.p.F i v }) h0 q]
        simp [upd]
      · unfold prO
        simp only
        by_cases r1 : (r : Int) < 1
        · rw [if_pos r1, if_pos r1]
        · rw [if_neg r1, if_neg r1]
          by_cases r2 : (r : Int) ≤ (t.p.n : Int)
          · rw [if_pos r2, if_pos r2]
            simp only [upd]
            rw [if_neg (by omega)]
          · rw [if_neg r2, if_neg r2]
    · obtain ⟨i, hi, rfl⟩ : ∃ i, i < t.p.z ∧ j = t.p.n + 1 + i := ⟨j - t.p.n - 1, by omega, by omega⟩
      have e : prO t.p ((t.p.n + 1 + i : Nat) : Int) = (t.p.g.K i, t.p.g.X i) := prO_H hi
      rw [e] at hv b2 b3 ⊢
      obtain ⟨hn, hk⟩ := ti.live hi hv
      have hz0 : t.p.z ≠ 0 := by omega
      obtain ⟨_, _, _, _, hfi⟩ := ti.inv.find_held (fun k _ => pl_lt (ti.rt.resolve_left hz0) k) hi hn
      have hp : put t.p.z t.p.g (t.p.g.K i) v = (setX t.p.g i v, (find (pl t.p.z) t.p.g (t.p.g.K i)).2, 0) := by
        unfold put
        rw [if_pos ⟨hk.1, hf⟩, if_neg hk.2.1, if_neg hz0, hfi]
      unfold pset
      simp only
      rw [if_neg (ti.out i hi), hp]
      refine ⟨rfl, rfl, rfl, rfl, rfl, ?_, fun r hr => ?_⟩
      · have := prO_H (p := { t.p with g := setX t.p.g i v }) hi
        simp only at this
        rw [this]
        simp [setX, upd]
      · unfold prO
        simp only
        by_cases r1 : (r : Int) < 1
        · rw [if_pos r1, if_pos r1]
        · rw [if_neg r1, if_neg r1]
          by_cases r2 : (r : Int) ≤ (t.p.n : Int)
          · rw [if_pos r2, if_pos r2]
          · rw [if_neg r2, if_neg r2]
            by_cases r3 : (r : Int) - t.p.n - 1 < (t.p.z : Int)
            · rw [if_pos r3, if_pos r3]
              simp only [setX, upd]
              rw [if_neg (by omega)]
            · rw [if_neg r3, if_neg r3]
  have et : (tset t s (prO t.p j).1 v).1.p = (pset t.p (prO t.p j).1 v).1 := by
    unfold tset
    rw [if_neg (fun q => q ⟨b2, hf⟩), if_neg b3, if_pos (by rw [key.1]; decide)]
    rfl
  rw [et]
  exact key.2

/-- Where a traversal stands: p0 the parts at its beginning, p now; i keys came, up to the place pos; ng keys were cleared. -/
structure Tv (p0 p : Pa) (pos i : Nat) (C : Nat → V) (ng : Nat) (G : Nat → V) : Prop where
  n : p.n = p0.n
  z : p.z = p0.z
  K : p.g.K = p0.g.K
  Cc : p.g.C = p0.g.C
  dn : ∀ j : Nat, 1 ≤ j → j ≤ p0.n + p0.z → (prO p j).2.1 ≠ 0 → (prO p0 j).2.1 ≠ 0
  ps : pos ≤ p0.n + p0.z
  cm : ∀ a, a < i → ∃ j : Nat, 1 ≤ j ∧ j ≤ pos ∧ (prO p0 j).2.1 ≠ 0 ∧ C a = (prO p0 j).1
  cv : ∀ j : Nat, 1 ≤ j → j ≤ pos → (prO p0 j).2.1 ≠ 0 → (∃ a, a < i ∧ C a = (prO p0 j).1) ∨ (∃ a, a < ng ∧ G a = (prO p0 j).1)
  gn : ∀ j : Nat, 1 ≤ j → j ≤ p0.n + p0.z → (prO p0 j).2.1 ≠ 0 → (prO p j).2.1 = 0 → ∃ a, a < ng ∧ G a = (prO p0 j).1
  ct : i ≤ (lsF p0 pos 1).length
theorem Tv.start (p : Pa) (C G : Nat → V) : Tv p p 0 0 C 0 G :=
  ⟨rfl, rfl, rfl, rfl, fun _ _ _ h => h, by omega, fun a h => by omega, fun j h1 h2 => by omega, fun j _ _ h1 h2 => absurd h2 h1, by omega⟩
theorem Tv.key {p0 p : Pa} {pos i ng : Nat} {C G : Nat → V} (h : Tv p0 p pos i C ng G) (j : Nat) : (prO p j).1 = (prO p0 j).1 := by
  unfold prO
  rw [h.n, h.z, h.K]
  split
  · rfl
  · split
    · rfl
    · split <;> rfl
/-- The next one. -/
theorem Tv.next {p0 p : Pa} {pos i ng : Nat} {C G : Nat → V} (h : Tv p0 p pos i C ng G) (ti : TI p0) :
    (pnx p pos = (nil, nil) ∧ (∀ a, a < i → hasN (keyF (wl p0)) (C a) (wl p0).length = true) ∧ ∀ (q : Nat) (x : V × V), (wl p0)[q]? = some x → hasN G x.1 ng = true ∨ hasN C x.1 i = true) ∨
    (∃ j : Nat, 1 ≤ j ∧ j ≤ p0.n + p0.z ∧ pnx p pos = prO p j ∧ (prO p j).2.1 ≠ 0 ∧ hasN C (prO p j).1 i = false ∧ Tv p0 p j (i + 1) (upd C i (prO p j).1) ng G ∧ i + 1 ≤ (wl p0).length) := by
  have hN : p.n + p.z = p0.n + p0.z := by rw [h.n, h.z]
  unfold pnx
  rw [hN]
  have hps := h.ps
  rcases nxF_scan p (p0.n + p0.z - pos) (pos + 1) with ⟨a, b⟩ | ⟨j, a1, a2, a3, a4, a5⟩
  · refine .inl ⟨a, fun c hc => ?_, fun q x hx => ?_⟩
    · obtain ⟨j, j1, j2, j3, j4⟩ := h.cm c hc
      have hm : prO p0 j ∈ wl p0 := lsF_mem.2 ⟨j, by omega, by omega, j3, rfl⟩
      obtain ⟨q, hq, e⟩ := List.getElem_of_mem hm
      refine hasN_yes hq ?_
      unfold keyF
      rw [List.getD_eq_getElem?_getD, List.getElem?_eq_getElem hq, e, j4]
      rfl
    · obtain ⟨j, j1, j2, j3, rfl⟩ := lsF_mem.1 (List.mem_of_getElem? hx)
      by_cases hj : j ≤ pos
      · rcases h.cv j (by omega) hj j3 with ⟨c, c1, c2⟩ | ⟨c, c1, c2⟩
        · exact .inr (hasN_yes c1 c2)
        · exact .inl (hasN_yes c1 c2)
      · obtain ⟨c, c1, c2⟩ := h.gn j (by omega) (by omega) j3 (b j (by omega) (by omega))
        exact .inl (hasN_yes c1 c2)
  · have hp0 : (prO p0 j).2.1 ≠ 0 := h.dn j (by omega) (by omega) a4
    have hk := h.key j
    have hct : (lsF p0 pos 1).length + 1 ≤ (lsF p0 j 1).length := by
      obtain ⟨m, rfl⟩ : ∃ m, j = m + 1 := ⟨j - 1, by omega⟩
      have e1 := (lsF_pre p0 pos 1 (m := m) (by omega)).length_le
      have e2 := lsF_snoc p0 m 1
      rw [show 1 + m = m + 1 by omega, if_pos hp0] at e2
      rw [e2, List.length_append]
      simp only [List.length_cons, List.length_nil]
      omega
    have hwl : (lsF p0 j 1).length ≤ (wl p0).length := (lsF_pre p0 j 1 (m := p0.n + p0.z) (by omega)).length_le
    have := h.ct
    refine .inr ⟨j, by omega, by omega, a3, a4, ?_, ⟨h.n, h.z, h.K, h.Cc, h.dn, by omega, fun c hc => ?_, fun q q1 q2 q3 => ?_, h.gn, by omega⟩, by omega⟩
    · cases hh : hasN C (prO p j).1 i
      · rfl
      · exfalso
        obtain ⟨c, c1, c2⟩ := (hasN_iff _ _ _).1 hh
        obtain ⟨r, r1, r2, r3, r4⟩ := h.cm c c1
        rw [c2, hk] at r4
        have e1 := (plc_prO ti (i := j) (by omega) (by omega) hp0).1
        have e2 := (plc_prO ti (i := r) r1 (by omega) r3).1
        rw [r4, e2] at e1
        omega
    · by_cases e : c = i
      · subst e
        exact ⟨j, by omega, Nat.le_refl _, hp0, by rw [upd_at, hk]⟩
      · obtain ⟨r, r1, r2, r3, r4⟩ := h.cm c (by omega)
        refine ⟨r, r1, by omega, r3, ?_⟩
        simp only [upd]
        rw [if_neg e]; exact r4
    · by_cases e : q = j
      · subst e
        exact .inl ⟨i, by omega, by rw [upd_at, hk]⟩
      · by_cases e2 : q ≤ pos
        · rcases h.cv q q1 e2 q3 with ⟨c, c1, c2⟩ | ⟨c, c1, c2⟩
          · refine .inl ⟨c, by omega, ?_⟩
            simp only [upd]
            rw [if_neg (by omega)]; exact c2
          · exact .inr ⟨c, c1, c2⟩
        · obtain ⟨c, c1, c2⟩ := h.gn q q1 (by omega) q3 (a5 q (by omega) (by omega))
          exact .inr ⟨c, c1, c2⟩
/-- A present key is set anew, or cleared. -/
theorem Tv.set {p0 : Pa} {t : TS} {s : H.St} {pos i ng : Nat} {C G : Nat → V} (h : Tv p0 t.p pos i C ng G) (ti : TI t.p) {j : Nat} (h0 : 1 ≤ j) (h1 : j ≤ p0.n + p0.z) (hv : (prO t.p j).2.1 ≠ 0) {v : V} (hf : fm v = true) :
    (v.1 ≠ 0 → Tv p0 (tset t s (prO t.p j).1 v).1.p pos i C ng G) ∧ (v.1 = 0 → Tv p0 (tset t s (prO t.p j).1 v).1.p pos i C (ng + 1) (upd G ng (prO t.p j).1)) := by
  obtain ⟨a1, a2, a3, a4, a5, a6⟩ := set_at (s := s) ti h0 (by rw [h.n, h.z]; exact h1) hv hf
  have hk := h.key j
  have hp0 := h.dn j h0 h1 hv
  have dn : ∀ q : Nat, 1 ≤ q → q ≤ p0.n + p0.z → (prO (tset t s (prO t.p j).1 v).1.p q).2.1 ≠ 0 → (prO p0 q).2.1 ≠ 0 := fun q q1 q2 q3 => by
    by_cases e : q = j
    · subst e; exact hp0
    · rw [a6 q e] at q3; exact h.dn q q1 q2 q3
  constructor
  · intro hv0
    refine ⟨a1.trans h.n, a2.trans h.z, a3.trans h.K, a4.trans h.Cc, dn, h.ps, h.cm, h.cv, fun q q1 q2 q3 q4 => ?_, h.ct⟩
    by_cases e : q = j
    · subst e; rw [a5] at q4; exact absurd q4 hv0
    · rw [a6 q e] at q4; exact h.gn q q1 q2 q3 q4
  · intro hv0
    have old : ∀ x, (∃ a, a < ng ∧ G a = x) → ∃ a, a < ng + 1 ∧ upd G ng (prO t.p j).1 a = x := fun x ⟨a, b1, b2⟩ => ⟨a, by omega, by simp only [upd]; rw [if_neg (by omega)]; exact b2⟩
    refine ⟨a1.trans h.n, a2.trans h.z, a3.trans h.K, a4.trans h.Cc, dn, h.ps, h.cm, fun q q1 q2 q3 => ?_, fun q q1 q2 q3 q4 => ?_, h.ct⟩
    · rcases h.cv q q1 q2 q3 with c | c
      · exact .inl c
      · exact .inr (old _ c)
    · by_cases e : q = j
      · subst e
        exact ⟨ng, by omega, by rw [upd_at, hk]⟩
      · rw [a6 q e] at q4; exact old _ (h.gn q q1 q2 q3 q4)
end Go.Proofs.Ythlgeohncpmaaab

/- Where WalkWhole stands: a table, the list of its pairs at the beginning, a key's box, two lists that grow. -/
namespace Go.Proofs.Ythlgeohncpmaaab
open Go.RowKit

theorem Lv.app2 {w : World} {B : Nat} {v : Value} {n : Nat} {F : Nat → V} (h : Lv w B v n F) {b : Nat} (x : V) (hx : Bx w b x) (hn : n ≤ 400000) (hB : B ≤ w.heap.size) :
    ∃ g c w', (Builtin.append_ #[36, 36] 36 #[v, .slice (some ⟨b, 0, none⟩) 1 1]).run Try.prog w = .ok (.slice (some ⟨g, 0, none⟩) (n + 1) c) w' ∧ Lv w' B (.slice (some ⟨g, 0, none⟩) (n + 1) c) (n + 1) (upd F n x) ∧ w.grownBy w' v.ownBlock ∧ (v.ownBlock = some g ∨ g = w.heap.size) ∧ g < w'.heap.size := by
  obtain ⟨i0, hi, hz0, hz1, hz2⟩ := info_parts info32
  obtain ⟨g, c, w', h1, h2, h3, h4, h5⟩ := run_append_lies (P := Try.prog) w 36 36 B 33 i0 (vl 0 0 ⟨#[]⟩) 3 32 Try.underlying36 hi hz0 hz1 hz2 rfl (by omega) v n (cellsV F n) h.own ⟨b, 0, none⟩ 1 1 [.int .i64 x.1, .int .i64 x.2.1, .string x.2.2] rfl (fun j u hu => by
    have hadd : (⟨b, 0, none⟩ : Addr).add j = ⟨b, j, none⟩ := by unfold Addr.add; split <;> simp_all
    rw [hadd]
    have hj : j < 3 := (List.getElem?_eq_some_iff.1 hu).1
    rcases lt3 hj with rfl | rfl | rfl
    · simp at hu; rw [← hu]; exact hx.c0
    · simp at hu; rw [← hu]; exact hx.c1
    · simp at hu; rw [← hu]; exact hx.c2) (by intro u hu; simp at hu; rcases hu with rfl | rfl | rfl <;> rfl) (by omega) (by simp only [maxLen]; omega) (by omega) hB _ rfl
  exact ⟨g, c, w', h1, ⟨by rw [← cellsV_snoc]; exact h2⟩, h3, h4, h5⟩
theorem Prs.kept {No : Nat → Prop} {w w' : World} {l : List (V × V)} {a : Option Addr} (h : Prs w l a) (k : Keep No w w') (hn : ∀ g, a = some ⟨g, 0, none⟩ → No g) : Prs w' l a := fun i x hx => by
  obtain ⟨g, e, hg, h0, h1, h2⟩ := h i x hx
  have hb := k.block g hg (hn g e)
  exact ⟨g, e, Nat.lt_of_lt_of_le hg k.size, (World.cell?_of_block hb).trans h0, (World.cell?_of_block hb).trans h1, (World.cell?_of_block hb).trans h2⟩
/-- What others wrote, behind a call of theirs. -/
theorem Ws.frame {P : Nat → Prop} {W w w' : World} {X : Nat} {xs : Value} {T S hb c : Nat} {t : TS} {s : H.St} (h : Ws P W w X xs none T S hb c t s) {Q : Nat → Prop} (k : Keep Q w w') (hq : ∀ g, ¬ Q g → P g ∧ X < g) : Ws (fun g => P g ∨ (w.heap.size ≤ g ∧ g < w'.heap.size)) W w' X xs none T S hb c t s := by
  obtain ⟨A, b, a, ht⟩ := h.tt
  have lo : ∀ g, g ≤ X → Q g := fun g hg => Classical.byContradiction fun q => by have := (hq g q).2; omega
  exact ⟨⟨A, b, a, ht.frame2 k.os k.tape k.output k.size (fun g hg hn => k.block g hg (Classical.byContradiction fun q => hn (hq g q).1))⟩, fun g q => .inl (h.lo g q), (fun _ e => by cases e),
    h.bel.trans (k.below (Nat.le_of_lt h.sz) (fun g hg => lo g (Nat.le_of_lt hg))), by rw [World.cell?_of_block (w := w) (k.block X h.sz (lo X (Nat.le_refl _)))]; exact h.xc, Nat.lt_of_lt_of_le h.sz k.size⟩

structure Wt (P : Nat → Prop) (W w : World) (X : Nat) (xs : Value) (T S hb c : Nat) (t : TS) (s : H.St) (l : List (V × V)) (a1 : Option Addr) (kb : Nat) (key : V) (vg vc : Value) (ng nc : Nat) (G C : Nat → V) : Prop where
  ws : Ws P W w X xs none T S hb c t s
  p1 : ∀ g, a1 = some ⟨g, 0, none⟩ → P g
  pk : P kb
  pg : ∀ g, vg.ownBlock = some g → P g
  pc : ∀ g, vc.ownBlock = some g → P g
  pr : Prs w l a1
  kx : R3 w kb key
  kX : X < kb
  lg : Lv w (X + 1) vg ng G
  lc : Lv w (X + 1) vc nc C
  d1 : ∀ g, a1 = some ⟨g, 0, none⟩ → g ≠ kb ∧ vg.ownBlock ≠ some g ∧ vc.ownBlock ≠ some g ∧ X < g ∧ g < w.heap.size
  d2 : vg.ownBlock ≠ some kb ∧ vc.ownBlock ≠ some kb
  d3 : ∀ g, vg.ownBlock = some g → vc.ownBlock ≠ some g
variable {P : Nat → Prop} {W w w' : World} {X : Nat} {xs : Value} {T S hb c : Nat} {t : TS} {s : H.St} {l : List (V × V)} {a1 : Option Addr} {kb : Nat} {key : V} {vg vc : Value} {ng nc : Nat} {G C : Nat → V}
theorem Wt.kept (h : Wt P W w X xs T S hb c t s l a1 kb key vg vc ng nc G C) {c' : Nat} {t' : TS} {s' : H.St} (hw : Ws P W w' X xs none T S hb c' t' s') (k : Keep P w w') : Wt P W w' X xs T S hb c' t' s' l a1 kb key vg vc ng nc G C :=
  ⟨hw, h.p1, h.pk, h.pg, h.pc, h.pr.kept k h.p1, h.kx.kept k h.pk, h.kX, h.lg.keep k h.pg, h.lc.keep k h.pc, fun g e => ⟨(h.d1 g e).1, (h.d1 g e).2.1, (h.d1 g e).2.2.1, (h.d1 g e).2.2.2.1, Nat.lt_of_lt_of_le (h.d1 g e).2.2.2.2 k.size⟩, h.d2, h.d3⟩
theorem Wt.below (h : Wt P W w X xs T S hb c t s l a1 kb key vg vc ng nc G C) (k : Below w.heap.size w w') : Wt P W w' X xs T S hb c t s l a1 kb key vg vc ng nc G C := h.kept (h.ws.below k) (Keep.of k)
theorem Wt.news (h : Wt P W w X xs T S hb c t s l a1 kb key vg vc ng nc G C) (k : Below w.heap.size w w') : Wt (fun g => P g ∨ (w.heap.size ≤ g ∧ g < w'.heap.size)) W w' X xs T S hb c t s l a1 kb key vg vc ng nc G C := by
  have h' := h.below k
  exact ⟨h.ws.news k, fun g e => .inl (h.p1 g e), .inl h.pk, fun g e => .inl (h.pg g e), fun g e => .inl (h.pc g e), h'.pr, h'.kx, h.kX, h'.lg, h'.lc, h'.d1, h.d2, h.d3⟩
theorem Wt.sub (h : Wt P W w X xs T S hb c t s l a1 kb key vg vc ng nc G C) {P' : Nat → Prop} (hs : ∀ g, P' g → P g) (hlo : ∀ g, g ≤ X + 1 → P' g) (p1 : ∀ g, a1 = some ⟨g, 0, none⟩ → P' g) (pk : P' kb) (pg : ∀ g, vg.ownBlock = some g → P' g) (pc : ∀ g, vc.ownBlock = some g → P' g) : Wt P' W w X xs T S hb c t s l a1 kb key vg vc ng nc G C :=
  ⟨h.ws.sub hs hlo, p1, pk, pg, pc, h.pr, h.kx, h.kX, h.lg, h.lc, h.d1, h.d2, h.d3⟩
/-- The key's box is written. -/
theorem Wt.store (h : Wt P W w X xs T S hb c t s l a1 kb key vg vc ng nc G C) (y : V) : Wt P W (set3 w kb y) X xs T S hb c t s l a1 kb y vg vc ng nc G C := by
  have k : Keep (fun g => g ≠ kb) w (set3 w kb y) := (Keep.refl _ w).set3 (fun q => q rfl) y
  exact ⟨h.ws.set3 h.pk h.kX y, h.p1, h.pk, h.pg, h.pc, h.pr.kept k (fun g e => (h.d1 g e).1), h.kx.set y, h.kX, h.lg.keep k (fun g e q => h.d2.1 (q ▸ e)), h.lc.keep k (fun g e q => h.d2.2 (q ▸ e)), fun g e => ⟨(h.d1 g e).1, (h.d1 g e).2.1, (h.d1 g e).2.2.1, (h.d1 g e).2.2.2.1, Nat.lt_of_lt_of_le (h.d1 g e).2.2.2.2 k.size⟩, h.d2, h.d3⟩
/-- One more came. -/
theorem Wt.appc (h : Wt P W w X xs T S hb c t s l a1 kb key vg vc ng nc G C) {w0 w1 : World} (k : Below w.heap.size w w0) (hg : w0.grownBy w1 vc.ownBlock) {g' c' : Nat} {C' : Nat → V} (hl : Lv w1 (X + 1) (.slice (some ⟨g', 0, none⟩) (nc + 1) c') (nc + 1) C') (hb' : vc.ownBlock = some g' ∨ g' = w0.heap.size) (hlt : g' < w1.heap.size) :
    Wt (fun g => P g ∨ (w.heap.size ≤ g ∧ g < w1.heap.size)) W w1 X xs T S hb c t s l a1 kb key vg (.slice (some ⟨g', 0, none⟩) (nc + 1) c') ng (nc + 1) G C' := by
  have kk : Keep (fun g => vc.ownBlock ≠ some g) w w1 := (Keep.of k).trans ⟨hg.os, hg.tape, hg.output, hg.size, fun g hlt hn => hg.block g hlt (fun e => hn e.symm)⟩
  have hs := k.size
  have hv : ∀ g, vc.ownBlock = some g → X < g ∧ g < w.heap.size := fun g e => ⟨by have := (h.lc.own.lt g e).1; omega, (h.lc.own.lt g e).2⟩
  have fresh : ∀ g, g < w.heap.size → vc.ownBlock ≠ some g → g ≠ g' := fun g h1 h2 e => by
    rcases hb' with r | r
    · exact h2 (e ▸ r)
    · omega
  have ob : (Value.slice (some ⟨g', 0, none⟩) (nc + 1) c').ownBlock = some g' := rfl
  refine ⟨h.ws.frame kk (fun g q => ?_), fun g e => .inl (h.p1 g e), .inl h.pk, fun g e => .inl (h.pg g e), fun g e => ?_, h.pr.kept kk (fun g e => (h.d1 g e).2.2.1), h.kx.kept kk h.d2.2, h.kX, h.lg.keep kk (fun g e => h.d3 g e), hl, fun g e => ?_, ⟨h.d2.1, fun e => ?_⟩, fun g e q => ?_⟩
  · have q' : vc.ownBlock = some g := Classical.byContradiction q
    exact ⟨h.pc g q', (hv g q').1⟩
  · rw [ob] at e
    have e' : g' = g := by injection e
    rcases hb' with r | r
    · exact .inl (h.pc g (by rw [← e']; exact r))
    · exact .inr ⟨by omega, by omega⟩
  · obtain ⟨e1, e2, e3, e4, e5⟩ := h.d1 g e
    refine ⟨e1, e2, fun q => ?_, e4, Nat.lt_of_lt_of_le e5 kk.size⟩
    rw [ob] at q
    exact fresh g e5 e3 (by injection q with q; exact q.symm)
  · rw [ob] at e
    exact fresh kb h.kx.bx.lt h.d2.2 (by injection e with e; exact e.symm)
  · rw [ob] at q
    exact fresh g (h.lg.own.lt g e).2 (h.d3 g e) (by injection q with q; exact q.symm)
/-- One more was cleared. -/
theorem Wt.appg (h : Wt P W w X xs T S hb c t s l a1 kb key vg vc ng nc G C) {w0 w1 : World} (k : Below w.heap.size w w0) (hg : w0.grownBy w1 vg.ownBlock) {g' c' : Nat} {G' : Nat → V} (hl : Lv w1 (X + 1) (.slice (some ⟨g', 0, none⟩) (ng + 1) c') (ng + 1) G') (hb' : vg.ownBlock = some g' ∨ g' = w0.heap.size) (hlt : g' < w1.heap.size) :
    Wt (fun g => P g ∨ (w.heap.size ≤ g ∧ g < w1.heap.size)) W w1 X xs T S hb c t s l a1 kb key (.slice (some ⟨g', 0, none⟩) (ng + 1) c') vc (ng + 1) nc G' C := by
  have hswap : Wt P W w X xs T S hb c t s l a1 kb key vc vg nc ng C G := ⟨h.ws, h.p1, h.pk, h.pc, h.pg, h.pr, h.kx, h.kX, h.lc, h.lg, fun g e => ⟨(h.d1 g e).1, (h.d1 g e).2.2.1, (h.d1 g e).2.1, (h.d1 g e).2.2.2⟩, ⟨h.d2.2, h.d2.1⟩, fun g e q => h.d3 g q e⟩
  have r := hswap.appc k hg hl hb' hlt
  exact ⟨r.ws, r.p1, r.pk, r.pc, r.pg, r.pr, r.kx, r.kX, r.lc, r.lg, fun g e => ⟨(r.d1 g e).1, (r.d1 g e).2.2.1, (r.d1 g e).2.1, (r.d1 g e).2.2.2⟩, ⟨r.d2.2, r.d2.1⟩, fun g e q => r.d3 g q e⟩
/-- A box of one's own is written. -/
theorem Wt.box (h : Wt P W w X xs T S hb c t s l a1 kb key vg vc ng nc G C) {b : Nat} (hp : P b) (hX : X < b) (h1 : b ≠ kb) (h2 : vg.ownBlock ≠ some b ∧ vc.ownBlock ≠ some b) (h3 : a1 ≠ some ⟨b, 0, none⟩) (y : V) : Wt P W (set3 w b y) X xs T S hb c t s l a1 kb key vg vc ng nc G C := by
  have k : Keep (fun g => g ≠ b) w (set3 w b y) := (Keep.refl _ w).set3 (fun q => q rfl) y
  exact ⟨h.ws.set3 hp hX y, h.p1, h.pk, h.pg, h.pc, h.pr.kept k (fun g e q => h3 (q ▸ e)), h.kx.kept k (fun q => h1 q.symm), h.kX, h.lg.keep k (fun g e q => h2.1 (q ▸ e)), h.lc.keep k (fun g e q => h2.2 (q ▸ e)), fun g e => ⟨(h.d1 g e).1, (h.d1 g e).2.1, (h.d1 g e).2.2.1, (h.d1 g e).2.2.2.1, Nat.lt_of_lt_of_le (h.d1 g e).2.2.2.2 k.size⟩, h.d2, h.d3⟩
end Go.Proofs.Ythlgeohncpmaaab

/- How many are present (no program in it): at most one more behind each Set; the list of pairs is as long. -/
namespace Go.Proofs.Ythlgeohncpmaaab
open Go.RowKit

theorem wl_nd {p : Pa} (ti : TI p) : ∀ f, f ≤ p.n + p.z → ((lsF p f 1).map (·.1)).Nodup
  | 0, _ => by rw [lsF]; exact List.nodup_nil
  | f + 1, hf => by
    have ih := wl_nd ti f (by omega)
    rw [lsF_snoc, List.map_append, List.nodup_append]
    refine ⟨ih, by split <;> simp, fun x hx y hy e => ?_⟩
    split at hy
    · rename_i hv
      simp only [List.map_cons, List.map_nil, List.mem_singleton] at hy
      subst e
      obtain ⟨q, hq, rfl⟩ := List.mem_map.1 hx
      obtain ⟨j, j1, j2, j3, rfl⟩ := lsF_mem.1 hq
      have e1 := (plc_prO ti (i := j) (by omega) (by omega) j3).1
      have e2 := (plc_prO ti (i := 1 + f) (by omega) (by omega) hv).1
      rw [hy, e2] at e1
      omega
    · simp at hy
theorem wl_count {p : Pa} (ti : TI p) : (wl p).length ≤ (pres p).length := by
  have h := nd_len (wl_nd ti (p.n + p.z) (Nat.le_refl _)) (l' := pres p) (fun x hx => by
    obtain ⟨q, hq, rfl⟩ := List.mem_map.1 hx
    obtain ⟨j, j1, j2, j3, rfl⟩ := lsF_mem.1 hq
    obtain ⟨_, b2, b3, b4, b5⟩ := plc_prO ti (i := j) (by omega) (by omega) j3
    exact ti.mem_pres.2 ⟨⟨b2, b3, b5.1, b5.2⟩, by rw [b4]; exact j3⟩)
  rw [List.length_map] at h
  exact h
theorem pres_count {t : TS} {s : H.St} {k v : V} (ti : TI t.p) (hr : Rng k) (ti' : TI (tset t s k v).1.p) : (pres (tset t s k v).1.p).length ≤ (pres t.p).length + 1 := by
  have h := nd_len ti'.pres_nd (l' := k :: pres t.p) (fun x hx => by
    obtain ⟨h1, h2⟩ := ti'.mem_pres.1 hx
    by_cases e : x = k
    · rw [e]; exact List.mem_cons_self
    · exact List.mem_cons_of_mem _ (ti.mem_pres.2 ⟨h1, by
        rcases Classical.em ((tset t s k v).2.2 = 0) with q | q
        · rw [((tset_map ti hr).1 q).2.2.2 x h1 e] at h2; exact h2
        · rw [(tset_map ti hr).2 q x] at h2; exact h2⟩))
  simpa using h
/-- What Get answers of a place's key. -/
theorem prO_get {p : Pa} (ti : TI p) {j : Nat} (h0 : 1 ≤ j) (h1 : j ≤ p.n + p.z) (hk : (prO p j).1 ≠ nil) : pget p (prO p j).1 = (prO p j).2 := by
  by_cases q : j ≤ p.n
  · rw [prO_A h0 q]
    obtain ⟨i, rfl⟩ : ∃ i, j = i + 1 := ⟨j - 1, by omega⟩
    have e : ((i + 1 : Nat) : Int) = (i : Int) + 1 := by omega
    rw [e]
    simpa using ti.get_slot (i := i) (by omega)
  · obtain ⟨i, hi, rfl⟩ : ∃ i, i < p.z ∧ j = p.n + 1 + i := ⟨j - p.n - 1, by omega, by omega⟩
    rw [prO_H hi] at hk ⊢
    exact ti.get_node hi hk
theorem idx_mod (N : Int) (L : Nat) (h : 0 < L) (hL : L ≤ 1000000) : ∃ r : Nat, wrap64 ((IntKind.u64.wrap N).tmod (L : Int)) = (r : Int) ∧ r < L := by
  have h0 : 0 ≤ IntKind.u64.wrap N := by
    simp only [IntKind.wrap, IntKind.bits, IntKind.signed]
    first | omega | (simp; omega)
  have e : (IntKind.u64.wrap N).tmod (L : Int) = (IntKind.u64.wrap N) % (L : Int) := Int.tmod_eq_emod_of_nonneg h0
  have h1 := Int.emod_nonneg (IntKind.u64.wrap N) (show (L : Int) ≠ 0 by omega)
  have h2 := Int.emod_lt_of_pos (IntKind.u64.wrap N) (show 0 < (L : Int) by omega)
  refine ⟨((IntKind.u64.wrap N) % (L : Int)).toNat, ?_, by omega⟩
  rw [e]
  unfold wrap64
  omega
theorem Tv.plc {p0 p : Pa} {pos i ng : Nat} {C G : Nat → V} (h : Tv p0 p pos i C ng G) (k : V) : plc p k = plc p0 k := by
  have e : find (pl p.z) p.g k = find (pl p0.z) p0.g k := by
    unfold find suf
    rw [h.z, h.K, h.Cc]
  unfold Proofs.Ythlgeohncpmaaab.plc fnd
  rw [e, h.n, h.z]
theorem Tv.kpos {p0 p p' : Pa} {pos i ng : Nat} {C G : Nat → V} {pos' i' ng' : Nat} {C' G' : Nat → V} (h : Tv p0 p pos i C ng G) (h' : Tv p0 p' pos' i' C' ng' G') {j : Nat} {k : V} (hk : Kpos p j k) : Kpos p' j k := by
  rcases hk with q | ⟨a, b, c, d⟩
  · exact .inl q
  · exact .inr ⟨a, b, by rw [h'.plc, ← h.plc]; exact c, d⟩
end Go.Proofs.Ythlgeohncpmaaab
