/- Appends of one list of values to another. -/
import Derived.Test.YtpmmploedkbeoaaGreatDoorCg07
import Derived.Test.YtpmmploedkbeoaaGreatDoorCg09
import Derived.Maps.AppendAt
import Derived.Test.YtpmmploedkbeoaaGreatDoorCg16
import Derived.Test.YtpmmploedkbeoaaGreatDoorCg21
import Derived.Test.YtpmmploedkbeoaaGreatDoorCg19
import Derived.Test.YtpmmploedkbeoaaGreatDoorCg18
import Derived.Test.YtpmmploedkbeoaaGreatDoorCg20
namespace Go.Proofs.YtpmmploedkbeoaaGreatDoor
open Go.RowKit
/-- A list's cells. -/
abbrev cellsL (l : List V) : List Value := cellsV (fun i => l.getD i nil) l.length
theorem cellsL_len (l : List V) : (cellsL l).length = l.length * 3 := cellsV_len _ _
theorem cellsL_app (a b : List V) : cellsL a ++ cellsL b = cellsL (a ++ b) := by
  refine List.ext_getElem? fun j => ?_
  by_cases h : j < a.length * 3
  · rw [List.getElem?_append_left (by rw [cellsL_len]; exact h), cellsV_at _ _ _ h, cellsV_at _ _ _ (by rw [List.length_append]; omega)]
    congr 2
    rw [List.getD_eq_getElem?_getD, List.getD_eq_getElem?_getD, List.getElem?_append_left (by omega)]
  · rw [List.getElem?_append_right (by rw [cellsL_len]; omega), cellsL_len]
    by_cases h2 : j < (a.length + b.length) * 3
    · rw [cellsV_at _ _ _ (by omega), cellsV_at _ _ _ (by rw [List.length_append]; exact h2), show (j - a.length * 3) / 3 = j / 3 - a.length by omega, show (j - a.length * 3) % 3 = j % 3 by omega]
      congr 2
      rw [List.getD_eq_getElem?_getD, List.getD_eq_getElem?_getD, List.getElem?_append_right (by omega)]
    · rw [List.getElem?_eq_none (by rw [cellsL_len]; omega), List.getElem?_eq_none (by rw [cellsL_len, List.length_append]; omega)]
/-- What is appended: the values ys, wherever they lie. -/
def Sv (w : World) (s : Value) (ys : List V) : Prop := (s = .slice none 0 0 ∧ ys = []) ∨ ∃ ad c, s = .slice (some ad) ys.length c ∧ ∀ j u, (cellsL ys)[j]? = some u → w.cell? (ad.add j) = some u
theorem lv_apps {w : World} {B : Nat} {v s : Value} {xs ys : List V} (h : Lv w B v xs.length fun i => xs.getD i nil) (hs : Sv w s ys) (hn : xs.length + ys.length ≤ 1000) (hB : B ≤ w.heap.size) :
    ∃ a q w', (Builtin.append_ #[30, 30] 30 #[v, s]).run Tryz.prog w = .ok (.slice a (xs.length + ys.length) q) w' ∧ Lv w' B (.slice a (xs.length + ys.length) q) (xs ++ ys).length (fun i => (xs ++ ys).getD i nil) ∧ w.grownBy w' v.ownBlock ∧ ((Value.slice a (xs.length + ys.length) q).ownBlock = v.ownBlock ∨ (Value.slice a (xs.length + ys.length) q).ownBlock = some w.heap.size) := by
  obtain ⟨i0, hi, hz0, hz1, hz2⟩ := info_parts info32
  rcases hs with ⟨rfl, rfl⟩ | ⟨ad, c, rfl, hc⟩
  · obtain ⟨a, q, rfl⟩ := h.form
    have hr := run_append_owned_none (P := Tryz.prog) w B 30 30 37 i0 3 Tryz.underlying30 hi (.slice a xs.length q) xs.length _ h.own
    refine ⟨a, q, w, hr, ⟨by rw [List.append_nil]; exact h.own⟩, ⟨rfl, rfl, rfl, Nat.le_refl _, fun _ _ _ => rfl⟩, .inl rfl⟩
  · obtain ⟨v', w', hr, h2, h3, _, h5⟩ := run_append_own_at (P := Tryz.prog) w B 30 30 37 i0 (vl 0 0 ⟨#[]⟩) 3 32 Tryz.underlying30 hi hz0 hz1 hz2 rfl (by omega) v xs.length _ h.own ad ys.length c (cellsL ys) (cellsL_len ys) hc (cellsV_one _ _) (by simp only [maxLen]; omega) (by omega) hB
    obtain ⟨a, q, rfl⟩ := slice_shape h2
    refine ⟨a, q, w', hr, ⟨?_⟩, h3, h5⟩
    have e : cellsV (fun i => xs.getD i nil) xs.length ++ cellsL ys = cellsL (xs ++ ys) := cellsL_app xs ys
    rw [e] at h2
    rw [List.length_append]
    show World.ownsRow _ _ _ _ _ _ (cellsV (fun i => (xs ++ ys).getD i nil) (xs.length + ys.length))
    have e2 : cellsL (xs ++ ys) = cellsV (fun i => (xs ++ ys).getD i nil) (xs.length + ys.length) := by unfold cellsL; rw [List.length_append]
    rw [← e2]
    exact h2
end Go.Proofs.YtpmmploedkbeoaaGreatDoor

/- The walk of the host's pairs. -/
namespace Go.Proofs.YtpmmploedkbeoaaGreatDoor
open Go.RowKit

/-- Each key and its value. -/
def prL : List (V × V) → List V
  | [] => []
  | x :: l => x.1 :: x.2 :: prL l
def prl (p : Pa) : List V := prL (wl p)
theorem prL_len : ∀ l : List (V × V), (prL l).length = 2 * l.length
  | [] => rfl
  | x :: l => by rw [prL, List.length_cons, List.length_cons, prL_len l, List.length_cons]; omega
theorem prL_app : ∀ l m : List (V × V), prL (l ++ m) = prL l ++ prL m
  | [], m => rfl
  | x :: l, m => by rw [List.cons_append, prL, prL, prL_app l m]; rfl
theorem cPs_at : ∀ (l : List (V × V)) (k j : Nat) (x : V × V), l[k]? = some x → j < 6 → (cPs l)[k * 6 + j]? = (cP x)[j]?
  | [], k, j, x, h, _ => by simp at h
  | y :: l, 0, j, x, h, hj => by
    obtain rfl : y = x := by simpa using h
    rw [cPs, List.flatMap_cons, Nat.zero_mul, Nat.zero_add, List.getElem?_append_left (by exact hj)]
  | y :: l, k + 1, j, x, h, hj => by
    have e := cPs_at l k j x (by simpa using h) hj
    rw [cPs, List.flatMap_cons, List.getElem?_append_right (by show 6 ≤ _; omega), show (k + 1) * 6 + j - (cP y).length = k * 6 + j by show (k + 1) * 6 + j - 6 = _; omega]
    exact e
theorem pair_cells {W : World} {B : Nat} {v : Value} {l : List (V × V)} (h : W.ownsRow B 148 6 v l.length (cPs l)) {k : Nat} {x : V × V} (hk : l[k]? = some x) : ∃ g c, v = .slice (some ⟨g, 0, none⟩) l.length c ∧ g < W.heap.size ∧
    W.cell? ⟨g, k * 6, none⟩ = some (.int .i64 x.1.1) ∧ W.cell? ⟨g, k * 6 + 1, none⟩ = some (.int .i64 x.1.2.1) ∧ W.cell? ⟨g, k * 6 + 2, none⟩ = some (.string x.1.2.2) ∧ W.cell? ⟨g, k * 6 + 3, none⟩ = some (.int .i64 x.2.1) ∧ W.cell? ⟨g, k * 6 + 4, none⟩ = some (.int .i64 x.2.2.1) ∧ W.cell? ⟨g, k * 6 + 5, none⟩ = some (.string x.2.2.2) := by
  have hl : k < l.length := (List.getElem?_eq_some_iff.1 hk).1
  obtain ⟨g, c, rfl, h1, h2⟩ := h.form (by omega)
  have e : ∀ j, j < 6 → W.cell? ⟨g, k * 6 + j, none⟩ = (cP x)[j]? := fun j hj => by
    rw [h.cellAt _ (by omega)]; exact cPs_at l k j x hk hj
  exact ⟨g, c, rfl, h2, e 0 (by omega), e 1 (by omega), e 2 (by omega), e 3 (by omega), e 4 (by omega), e 5 (by omega)⟩
theorem takeP_snoc {l : List (V × V)} {k : Nat} {x : V × V} (h : l[k]? = some x) : prL (l.take (k + 1)) = prL (l.take k) ++ [x.1, x.2] := by
  have hk : k < l.length := (List.getElem?_eq_some_iff.1 h).1
  have e : l[k] = x := (List.getElem?_eq_some_iff.1 h).2
  rw [List.take_succ_eq_append_getElem hk, prL_app, e]; rfl
set_option maxRecDepth 20000 in
set_option maxHeartbeats 4000000 in
theorem hpairs_any {w : World} {T A b a S : Nat} {t : TS} (h : Tm w T A b a S t) (ti : TI t.p) (hs : (wl t.p).length ≤ 500) : Calls Tryz.prog 46 #[tp T] w fun e w' => ∃ v, e = .returned (rp v 0) ∧ Rq w' w.heap.size v (prl t.p) ∧ Below w.heap.size w w' := by
  have B0 := b1 w (.cells #[.slice none 0 0, .int .i64 0, .int .i64 0, .slice none 0 0, .slice none 0 0, .int .i64 0, .int .i64 0, .int .i64 0, .int .i64 0, .int .i64 0, .int .i64 0] 35)
  have R0 := R11.made w (.slice none 0 0) 0
  obtain ⟨W0, hW0⟩ : ∃ W0, w.alloc (.cells #[.slice none 0 0, .int .i64 0, .int .i64 0, .slice none 0 0, .slice none 0 0, .int .i64 0, .int .i64 0, .int .i64 0, .int .i64 0, .int .i64 0, .int .i64 0] 35) = W0 := ⟨_, rfl⟩
  rw [hW0] at B0 R0
  have CL := list_any (h.below B0) ti
  have HB0 : Hid (Below w.heap.size w W0) := B0
  have HR0 : Hid (R11 W0 w.heap.size (.slice none 0 0) 0) := R0
  obtain ⟨l, hl⟩ : ∃ l, wl t.p = l := ⟨_, rfl⟩
  rw [hl] at CL hs
  have HL : Hid (wl t.p = l) := hl
  unfold tp at CL ⊢
  clear h B0 R0 hl
  go_enter Tryz.func46, Tryz.ntmps46
  go_wp2_with fail
  refine CL.mono ?_; rintro e w1 ⟨v, rfl, ho, hb1⟩
  obtain ⟨la, lc, rfl⟩ : ∃ la lc, v = .slice la l.length lc := by
    rcases ho.2 with ⟨rfl, hx⟩ | ⟨g, cap, cur, rfl, _⟩
    · refine ⟨none, 0, ?_⟩
      have : l.length = 0 := by simpa using hx
      rw [this]
    · exact ⟨_, _, rfl⟩
  have hn : ¬ (1000 : Int) < (l.length : Int) := by omega
  obtain ⟨i0, hi, hz0, hz1, hz2⟩ := info_parts info32
  obtain ⟨w2, hm, ho2, hg2⟩ := run_make_own (P := Tryz.prog) w1 w.heap.size 30 37 i0 (vl 0 0 ⟨#[]⟩) 3 Tryz.underlying30 hi hz0 hz1 .i64 .i64 (2 * l.length) (by rw [hz2]; omega) (by unfold maxLen; omega) (by have := HB0.out.size; have := hb1.size; omega)
  rw [show ((2 * l.length : Nat) : Int) = 2 * (l.length : Int) by omega] at hm
  have hb1' := bthen HB0.out HB0.out.size hb1
  have HB2 : Hid (Below w.heap.size w w2 ∧ Below W0.heap.size W0 w2 ∧ w1.heap.size < w2.heap.size) := by
    have q : Below w1.heap.size w1 w2 := ⟨hg2.os, hg2.tape, hg2.output, hg2.size, fun g hg => hg2.block g hg (by simp)⟩
    refine ⟨bthen hb1' hb1'.size q, bthen hb1 hb1.size q, ?_⟩
    rcases ho2.2 with ⟨h, _⟩ | ⟨g, cap, cur, h1, h2, h3, _⟩
    · cases h
    · cases h1; exact (Array.getElem?_eq_some_iff.1 h3).1
  have HLv : Hid (Lv w2 w1.heap.size (.slice (some ⟨w1.heap.size, 0, none⟩) ([] : List V).length (2 * l.length)) ([] : List V).length (fun i => ([] : List V).getD i nil)) := ⟨by
    rcases ho2 with ⟨q1, q2⟩
    refine ⟨rfl, ?_⟩
    rcases q2 with ⟨h, _⟩ | ⟨g, cap, cur, h1, h2, h3, h4⟩
    · cases h
    · cases h1; exact .inr ⟨_, _, cur, rfl, Nat.le_refl _, h3, h4⟩⟩
  have HO : Hid (w1.ownsRow W0.heap.size 148 6 (.slice la l.length lc) l.length (cPs l)) := ho
  have HB1 : Hid (Below W0.heap.size W0 w1) := hb1
  have HI0 : Hid (Lv w2 w1.heap.size (.slice (some ⟨w1.heap.size, 0, none⟩) (prL (l.take 0)).length (2 * l.length)) (prL (l.take 0)).length (fun i => (prL (l.take 0)).getD i nil) ∧ Below w1.heap.size w1 w2) := ⟨HLv.out, ⟨hg2.os, hg2.tape, hg2.output, hg2.size, fun g hg => hg2.block g hg (by simp)⟩⟩
  clear ho hb1 hb1' ho2 hg2 hi hz0 hz1 hz2 CL HLv HB2
  go_wp2_with fail
  clear hm
  go_loopw [4, 19] (fun v iv wr => ∃ (k : Nat) (a : Option Addr) (c : Nat), iv = .int .i64 (k : Nat) ∧ k ≤ l.length ∧ v = .slice a (prL (l.take k)).length c ∧ Hid (Lv wr w1.heap.size (.slice a (prL (l.take k)).length c) (prL (l.take k)).length (fun i => (prL (l.take k)).getD i nil) ∧ Below w1.heap.size w1 wr)) (fun _ iv _ => l.length - (intOf iv).toNat)
  case atStart => exact ⟨0, _, _, rfl, by omega, rfl, HI0⟩
  case round =>
    clear HI0
    obtain ⟨k, a, c, rfl, hk, rfl, HI⟩ := hrel
    have hlen : (prL (l.take k)).length = 2 * k := by rw [prL_len, List.length_take]; omega
    by_cases hlt : k < l.length
    · have hlt' : (k : Int) < (l.length : Int) := by omega
      have wi : IntKind.i64.wrap ((k : Int) + 1) = (k : Int) + 1 := by rw [IntKind.wrap_i64]; omega
      obtain ⟨x, hx⟩ : ∃ x, l[k]? = some x := ⟨_, List.getElem?_eq_getElem hlt⟩
      obtain ⟨g, cg, e1, hg, q0, q1, q2, q3, q4, q5⟩ := pair_cells HO.out hx
      cases e1
      have y0 := (HI.out.2.cell (p := ⟨g, k * 6, none⟩) hg).trans q0
      have y1 := (HI.out.2.cell (p := ⟨g, k * 6 + 1, none⟩) hg).trans q1
      have y2 := (HI.out.2.cell (p := ⟨g, k * 6 + 2, none⟩) hg).trans q2
      have y3 := (HI.out.2.cell (p := ⟨g, k * 6 + 3, none⟩) hg).trans q3
      have y4 := (HI.out.2.cell (p := ⟨g, k * 6 + 4, none⟩) hg).trans q4
      have y5 := (HI.out.2.cell (p := ⟨g, k * 6 + 5, none⟩) hg).trans q5
      have hT : Hid (prL (l.take (k + 1)) = prL (l.take k) ++ [x.1, x.2]) := takeP_snoc hx
      have b5 := b2 wr (.cells #[.int .i64 x.1.1, .int .i64 x.1.2.1, .string x.1.2.2, .int .i64 x.2.1, .int .i64 x.2.2.1, .string x.2.2.2] 148) (.cells #[.int .i64 x.1.1, .int .i64 x.1.2.1, .string x.1.2.2, .int .i64 x.2.1, .int .i64 x.2.2.1, .string x.2.2.2] 37)
      have hcell := (MapKept.heap_alloc (wr.alloc (.cells #[.int .i64 x.1.1, .int .i64 x.1.2.1, .string x.1.2.2, .int .i64 x.2.1, .int .i64 x.2.2.1, .string x.2.2.2] 148)) (.cells #[.int .i64 x.1.1, .int .i64 x.1.2.1, .string x.1.2.2, .int .i64 x.2.1, .int .i64 x.2.2.1, .string x.2.2.2] 37)).1
      rw [show (wr.alloc (.cells #[.int .i64 x.1.1, .int .i64 x.1.2.1, .string x.1.2.2, .int .i64 x.2.1, .int .i64 x.2.2.1, .string x.2.2.2] 148)).heap.size = wr.heap.size + 1 by simp] at hcell
      obtain ⟨a2, c2, w5, hr, l5, g5, _⟩ := lv_apps (xs := prL (l.take k)) (ys := [x.1, x.2]) (s := .slice (some ⟨wr.heap.size + 1, 0, none⟩) 2 2) (HI.out.1.below b5) (.inr ⟨⟨wr.heap.size + 1, 0, none⟩, 2, rfl, fun j u hu => by
        have hadd : (⟨wr.heap.size + 1, 0, none⟩ : Addr).add j = ⟨wr.heap.size + 1, j, none⟩ := by unfold Addr.add; split <;> simp_all
        rw [hadd]
        have hj : j < 6 := by have := (List.getElem?_eq_some_iff.1 hu).1; rw [cellsL_len] at this; exact this
        obtain rfl | rfl | rfl | rfl | rfl | rfl : j = 0 ∨ j = 1 ∨ j = 2 ∨ j = 3 ∨ j = 4 ∨ j = 5 := by omega
        all_goals (unfold cellsL at hu; rw [cellsV_at _ _ _ (by show _ < 6; omega)] at hu; exact (cell_of_row hcell _).trans hu)⟩) (by rw [hlen]; show 2 * k + 2 ≤ 1000; omega) (by have := HI.out.2.size; have := b5.size; omega)
      have HN : Hid (Lv w5 w1.heap.size (.slice a2 (prL (l.take (k + 1))).length c2) (prL (l.take (k + 1))).length (fun i => (prL (l.take (k + 1))).getD i nil) ∧ Below w1.heap.size w1 w5) := by
        refine ⟨by rw [hT.out, show (prL (l.take k) ++ [x.1, x.2]).length = (prL (l.take k)).length + [x.1, x.2].length by simp]; rw [show (prL (l.take k) ++ [x.1, x.2]).length = (prL (l.take k)).length + [x.1, x.2].length by simp] at l5; exact l5, (bthen HI.out.2 HI.out.2.size b5).trans ⟨g5.os, g5.tape, g5.output, g5.size, fun y hy => g5.block y (by have := b5.size; have := HI.out.2.size; omega) (fun e => ?_)⟩⟩
        have := (HI.out.1.own.lt y e.symm).1
        omega
      have hlen2 : (prL (l.take (k + 1))).length = (prL (l.take k)).length + [x.1, x.2].length := by rw [hT.out]; simp
      have HL3 : Hid ((prL (l.take (k + 1))).length = 2 * k + 2) := by show _ = _; rw [prL_len, List.length_take]; omega
      clear hx q0 q1 q2 q3 q4 q5 hg b5 hcell l5 g5 HI
      rw [← hlen2] at hr
      go_wp2_with (at_builtin; refine wp_app rfl _ _ 30 rfl 30 rfl _ _ rfl rfl hr ?_)
      go_roundw
      case rel => exact ⟨k + 1, a2, c2, by go_num, by omega, by rw [HL3.out], HN⟩
      case measure => first | omega | (simp only [intOf]; omega) | (simp; omega)
    · have e0 : k = l.length := by omega
      subst e0
      have hlt' : ¬ (l.length : Int) < (l.length : Int) := by omega
      rw [List.take_length] at HI ⊢
      have C35 := answer_ok a (prL l).length c wr
      clear hlen
      go_wp2_with fail
      refine C35.mono ?_; rintro e U ⟨rfl, hu⟩
      have hk : Below W0.heap.size W0 U := bthen (bthen HB1.out HB1.out.size HI.out.2) (Nat.le_trans HB1.out.size HI.out.2.size) hu
      have qU : Rq U w1.heap.size (.slice a (prL l).length c) (prL l) := (⟨a, c, rfl, Vin.of HI.out.1, fun g off q => by
        have := (HI.out.1.own.lt g (by rw [q]; rfl)).1
        exact this⟩ : Rq wr w1.heap.size (.slice a (prL l).length c) (prL l)).below hu
      obtain ⟨rU, rS, bS⟩ := rfin HB0.out HR0.out hk (.slice a (prL l).length c) 0
      have hlt2 : w.heap.size < w1.heap.size := Nat.lt_of_lt_of_le HR0.out.lt HB1.out.size
      have qS := (rq_set11 qU hlt2 (.slice a (prL l).length c) 0).low (Nat.le_of_lt hlt2)
      obtain ⟨U1, U2, U3, U4, U5, U6, U7, U8, U9, U10, U11, ⟨f0, n0⟩, ⟨s0, f1, n1⟩, ⟨s1, f2, n2⟩, ⟨s2, f3, n3⟩, ⟨s3, f4, n4⟩, ⟨s4, f5, n5⟩, ⟨s5, f6, n6⟩, ⟨s6, f7, n7⟩, ⟨s7, f8, n8⟩, ⟨s8, f9, n9⟩, ⟨s9, f10, n10⟩, s10, se⟩ := rU.steps (.slice a (prL l).length c) 0
      rw [se] at rS bS qS
      have HE : Hid (R11 U11 w.heap.size (.slice a (prL l).length c) 0 ∧ Below w.heap.size w U11 ∧ Rq U11 w.heap.size (.slice a (prL l).length c) (prL l)) := ⟨rS, bS, qS⟩
      clear C35 hu hk qU rU rS bS qS se HI hlt2
      go_wp2_with fail
      have r0 := HE.out.1.c0
      have r1 := HE.out.1.c1
      have r2 := HE.out.1.c2
      have r3 := HE.out.1.c3
      have r4 := HE.out.1.c4
      have r5 := HE.out.1.c5
      have r6 := HE.out.1.c6
      have r7 := HE.out.1.c7
      have r8 := HE.out.1.c8
      have r9 := HE.out.1.c9
      have r10 := HE.out.1.c10
      exact bodyPost_ret (v := rp (.slice a (prL l).length c) 0) (by simp [results, Tryz.results46, go_sem, r0, r1, r2, r3, r4, r5, r6, r7, r8, r9, r10]) rfl ⟨_, rfl, by unfold prl; rw [HL.out]; exact HE.out.2.2, HE.out.2.1⟩
end Go.Proofs.YtpmmploedkbeoaaGreatDoor

/- Pairs of a table. -/
namespace Go.Proofs.YtpmmploedkbeoaaGreatDoor
open Go.RowKit

set_option maxRecDepth 20000 in
set_option maxHeartbeats 4000000 in
theorem ask_pairs {No : Nat → Prop} {w : World} {M S hb c : Nat} {t : TS} {s : H.St} (h : Mt No w M S hb c t s) (_hc : c ≤ 700000) {a : Option Addr} {cp : Nat} {F : Nat → V} (hv : Vin w a 1 F) (hva : ∀ g off, a = some ⟨g, off, none⟩ → No g) (hcp : 1 ≤ cp) (h0 : F 0 = (4, 1, ⟨#[]⟩)) (hs : (wl t.p).length ≤ 500) (nm : ByteArray) (p q : Int) :
    Calls Tryz.prog 22 #[.pointer (some ⟨M, 0, none⟩), .agg #[.int .i64 13, .string nm, .slice a 1 cp, .int .i64 p, .int .i64 q]] w (AskP No w M S hb c t s (prl t.p) 0) := by
  obtain ⟨G, cpG, T, A, b, aT, mc, hG, tt, nM, nG⟩ := h.ex
  obtain ⟨B0, O0, R0⟩ := entry2 w 13 nm (.slice a 1 cp) p q
  obtain ⟨W0, hW0⟩ : ∃ W0, (w.alloc (.cells #[.int .i64 13, .string nm, .slice a 1 cp, .int .i64 p, .int .i64 q] 48)).alloc (.cells #[.slice none 0 0, .int .i64 0, .int .i64 0, .slice none 0 0, .slice none 0 0, .int .i64 0, .int .i64 0, .int .i64 0, .int .i64 0, .int .i64 0, .int .i64 0] 35) = W0 := ⟨_, rfl⟩
  rw [hW0] at B0 O0 R0
  have CH := handed_any (mc.below B0) (hv.below B0) hcp 13 p q nm rfl (by omega) (by omega) (by rw [h0])
  have o0 := O0.c0
  have o1 := O0.c1
  have o2 := O0.c2
  have o3 := O0.c3
  have o4 := O0.c4
  have huk : unk ((1 : Nat) : Int) F 1 = false := by
    rw [unk, unk, h0, kn_tab]; rfl
  rw [huk] at CH
  have HT0 : Hid (TT (fun g => No g ∨ (w.heap.size ≤ g ∧ g < W0.heap.size)) W0 T A b aT S hb c t s) := tt.news B0
  have HN : Hid (∀ g, No g → g < w.heap.size) := fun g q => tt.nos q
  have HM : Hid (Mc w M S (.slice (some ⟨G, 0, none⟩) 1 cpG) ∧ w.cell? ⟨G, 0, none⟩ = some (.pointer (some ⟨T, 0, none⟩)) ∧ No M ∧ No G ∧ G < w.heap.size) := ⟨mc, hG, nM, nG, tt.nos nG⟩
  have HR0 : Hid (R11 W0 (w.heap.size + 1) (.slice none 0 0) 0) := R0
  have HB0 : Hid (Below w.heap.size w W0) := B0
  have HV : Hid (Vin W0 a 1 F ∧ ∀ g off, a = some ⟨g, off, none⟩ → No g) := ⟨hv.below B0, hva⟩
  clear h mc hG tt nM nG B0 O0 R0 hv hva huk
  simp only [Bool.false_eq_true, if_false] at CH
  go_enter Tryz.func22, Tryz.ntmps22
  go_wp2_with fail
  refine CH.mono ?_; rintro e w1 ⟨rfl, hb1⟩
  have HB1 : Hid (Below w.heap.size w w1) := bthen HB0.out HB0.out.size hb1
  have HT1 : Hid (TT (fun g => No g ∨ (w.heap.size ≤ g ∧ g < W0.heap.size)) w1 T A b aT S hb c t s) := HT0.out.below hb1
  have HR1 : Hid (R11 w1 (w.heap.size + 1) (.slice none 0 0) 0) := HR0.out.below hb1
  obtain ⟨lb, off, rfl, hlb, u0, u1, u2⟩ := (HV.out.1.below hb1).at' 0 (by omega)
  rw [h0, Nat.zero_mul, Nat.add_zero] at u0 u1
  have o0' := (hb1.cell (p := ⟨w.heap.size, 0, none⟩) (show w.heap.size < W0.heap.size by have := HR0.out.lt; omega)).trans o0
  have CT := table_any (HM.out.1.below HB1.out) ((HB1.out.cell (p := ⟨G, 0, none⟩) HM.out.2.2.2.2).trans HM.out.2.1)
  have CG := hpairs_any HT1.out.tm HT1.out.ti hs
  clear CH hb1 hlb u2 o0 o1 o2 o3 o4 hW0
  go_wp2_with fail
  refine CT.mono ?_; rintro e w2 ⟨rfl, hw2⟩; rw [hw2]; clear hw2 CT
  go_wp2_with fail
  refine CG.mono ?_; rintro e U ⟨v, rfl, qv, hu⟩
  obtain ⟨x, n, l', rfl⟩ : ∃ x n c', v = .slice x n c' := by
    obtain ⟨x, c', h1, _⟩ := qv.ex
    exact ⟨x, _, c', h1⟩
  have qb : (prl t.p) ≠ [] → ∀ g off, x = some ⟨g, off, none⟩ → w1.heap.size ≤ g ∧ g < U.heap.size := fun hne g off hx => by
    obtain ⟨a', c', h1, h2, h3⟩ := qv.ex
    injection h1 with h1 _ _
    subst h1
    obtain ⟨lb, o2, e2, hl, _⟩ := h2.at' 0 (List.length_pos_iff.2 hne)
    rw [hx] at e2
    cases e2
    exact ⟨h3 g off hx, hl⟩
  have rU := HR1.out.below hu
  have tU := HT1.out.news hu
  have kU : Keep No w U := (Keep.of HB1.out).bel hu
  have rS := rU.set (.slice x n l') 0
  have qS := rq_set11 (N := w.heap.size + 1) qv (by have := HR1.out.lt; exact this) (.slice x n l') 0
  obtain ⟨U1, U2, U3, U4, U5, U6, U7, U8, U9, U10, U11, ⟨f0, n0⟩, ⟨s0, f1, n1⟩, ⟨s1, f2, n2⟩, ⟨s2, f3, n3⟩, ⟨s3, f4, n4⟩, ⟨s4, f5, n5⟩, ⟨s5, f6, n6⟩, ⟨s6, f7, n7⟩, ⟨s7, f8, n8⟩, ⟨s8, f9, n9⟩, ⟨s9, f10, n10⟩, s10, se⟩ := rU.steps (.slice x n l') 0
  have HE : Hid (R11 U11 (w.heap.size + 1) (.slice x n l') 0 ∧ TT (fun g => (No g ∨ (w.heap.size ≤ g ∧ g < W0.heap.size)) ∨ (w1.heap.size ≤ g ∧ g < U.heap.size)) U11 T A b aT S hb c t s ∧ Keep No w U11 ∧ Rq U11 w.heap.size (.slice x n l') (prl t.p) ∧ ((prl t.p) ≠ [] → ∀ g off, x = some ⟨g, off, none⟩ → w1.heap.size ≤ g ∧ g < U.heap.size)) := by
    rw [← se]
    exact ⟨rS, tU.set11 (.inl (.inr ⟨by omega, HR0.out.lt⟩)) _ _, keep_set11 kU (fun q => by have := HN.out _ q; omega) _ _, qS.low (by have := HR1.out.lt; omega), qb⟩
  clear CG hu rU tU kU rS qS qv qb se u0 u1 o0'
  go_wp2_with fail
  have r0 := HE.out.1.c0
  have r1 := HE.out.1.c1
  have r2 := HE.out.1.c2
  have r3 := HE.out.1.c3
  have r4 := HE.out.1.c4
  have r5 := HE.out.1.c5
  have r6 := HE.out.1.c6
  have r7 := HE.out.1.c7
  have r8 := HE.out.1.c8
  have r9 := HE.out.1.c9
  have r10 := HE.out.1.c10
  exact bodyPost_ret (v := rp (.slice x n l') 0) (by simp [results, Tryz.results22, go_sem, r0, r1, r2, r3, r4, r5, r6, r7, r8, r9, r10]) rfl ⟨⟨_, _, _, rfl, HE.out.2.2.2.1, _, ⟨G, cpG, T, A, b, aT, HM.out.1.kept HE.out.2.2.1 HM.out.2.2.1, by rw [World.cell?_of_block (w := w) (HE.out.2.2.1.block G HM.out.2.2.2.2 HM.out.2.2.2.1)]; exact HM.out.2.1, HE.out.2.1, .inl (.inl HM.out.2.2.1), .inl (.inl HM.out.2.2.2.1)⟩, fun g q => .inl (.inl q), fun hne g off q => .inr (HE.out.2.2.2.2 hne g off q)⟩, HE.out.2.2.1⟩
end Go.Proofs.YtpmmploedkbeoaaGreatDoor

/- Any operation on the machine's table. -/
namespace Go.Proofs.YtpmmploedkbeoaaGreatDoor
open Go.RowKit

/-- What an operation on the table comes to: its values, its error, the table behind it. -/
def opF (k : Int) (F : Nat → V) (t : TS) (s : H.St) : (List V × Int) × TS × H.St :=
  if k = 8 then (if kn1 1 (F 1) then (([pget t.p (F 1)], 0), { t with pr := t.pr + (prd t.p (F 1) : Nat) }, s) else (([], 2), t, s))
  else if k = 9 then (if kn1 1 (F 1) && kn1 1 (F 2) then (([], (tset t s (F 1) (F 2)).2.2), (tset t s (F 1) (F 2)).1, (tset t s (F 1) (F 2)).2.1) else (([], 2), t, s))
  else if k = 12 then (([kn (t.p.n : Nat), kn (t.p.z : Nat), kn (t.p.g.f : Nat), kn t.hint, kn t.pr], 0), t, s)
  else ((prl t.p, 0), t, s)
/-- An operation on the table 1, with values in memory. -/
structure Vo (No : Nat → Prop) (w : World) (o : Opv) (F : Nat → V) : Prop where
  kk : o.k = 8 ∨ o.k = 9 ∨ o.k = 12 ∨ o.k = 13
  us : usesF o.k = (o.L : Int)
  le : o.L ≤ o.cp
  v : Vin w o.a o.L F
  no : ∀ g off, o.a = some ⟨g, off, none⟩ → No g
  f0 : F 0 = (4, 1, ⟨#[]⟩)
  rg : Rng (F 1)
theorem Vo.keep {No No' : Nat → Prop} {w w' : World} {o : Opv} {F : Nat → V} (h : Vo No w o F) (k : Keep No w w') (hn : ∀ g, No g → No' g) : Vo No' w' o F := ⟨h.kk, h.us, h.le, h.v.keep k h.no, fun g off e => hn g (h.no g off e), h.f0, h.rg⟩
theorem AskP.more {No : Nat → Prop} {w : World} {M S hb c c' : Nat} {t : TS} {s : H.St} {l : List V} {er : Int} {e : Ending} {w' : World} (h : AskP No w M S hb c t s l er e w') (hc : c ≤ c') : AskP No w M S hb c' t s l er e w' := by
  obtain ⟨⟨x, n, c2, h1, h2, No', h3, h4, h5⟩, k⟩ := h
  exact ⟨⟨x, n, c2, h1, h2, No', h3.more hc, h4, h5⟩, k⟩
theorem do_op {No : Nat → Prop} {w : World} {M S hb c : Nat} {t : TS} {s : H.St} (h : Mt No w M S hb c t s) (hc : c ≤ 700000) {o : Opv} {F : Nat → V} (hv : Vo No w o F) (hs : (wl t.p).length ≤ 500) :
    Calls Tryz.prog 14 #[.pointer (some ⟨M, 0, none⟩), .agg #[.int .i64 o.k, .string o.nm, .slice o.a o.L o.cp, .int .i64 o.p, .int .i64 o.q]] w (AskP No w M S hb (c + 7) (opF o.k F t s).2.1 (opF o.k F t s).2.2 (opF o.k F t s).1.1 (opF o.k F t s).1.2) := by
  obtain ⟨k, nm, a, L, cp, p, q⟩ := o
  obtain ⟨kk, us, le, v, no, f0, rg⟩ := hv
  simp only at kk us le v no ⊢
  rcases kk with rfl | rfl | rfl | rfl
  · obtain rfl : L = 2 := by have : (2 : Int) = (L : Int) := us; omega
    refine do_table h 8 p q nm a 2 cp (by omega) (by omega) fun No2 W k hn m => ?_
    refine (ask_index m hc (v.below k) (fun g off e => hn g (no g off e)) le f0 rg nm p q).mono fun e w' z => ?_
    have e1 : opF 8 F t s = if kn1 1 (F 1) then (([pget t.p (F 1)], 0), { t with pr := t.pr + (prd t.p (F 1) : Nat) }, s) else (([], 2), t, s) := if_pos rfl
    rw [e1]
    cases hk : kn1 1 (F 1)
    · rw [hk] at z; exact AskP.more z (by omega)
    · rw [hk] at z; exact AskP.more z (by omega)
  · obtain rfl : L = 3 := by have : (3 : Int) = (L : Int) := us; omega
    refine do_table h 9 p q nm a 3 cp (by omega) (by omega) fun No2 W k hn m => ?_
    refine (ask_store m hc (v.below k) (fun g off e => hn g (no g off e)) le f0 rg nm p q).mono fun e w' z => ?_
    have e1 : opF 9 F t s = if kn1 1 (F 1) && kn1 1 (F 2) then (([], (tset t s (F 1) (F 2)).2.2), (tset t s (F 1) (F 2)).1, (tset t s (F 1) (F 2)).2.1) else (([], 2), t, s) := by
      unfold opF; rw [if_neg (by decide), if_pos rfl]
    rw [e1]
    cases hk : (kn1 1 (F 1) && kn1 1 (F 2))
    · rw [hk] at z; exact z
    · rw [hk] at z; exact z
  · obtain rfl : L = 1 := by have : (1 : Int) = (L : Int) := us; omega
    refine do_table h 12 p q nm a 1 cp (by omega) (by omega) fun No2 W k hn m => ?_
    refine (ask_stats m hc (v.below k) (fun g off e => hn g (no g off e)) le f0 nm p q).mono fun e w' z => ?_
    have e1 : opF 12 F t s = (([kn (t.p.n : Nat), kn (t.p.z : Nat), kn (t.p.g.f : Nat), kn t.hint, kn t.pr], 0), t, s) := by
      unfold opF; rw [if_neg (by decide), if_neg (by decide), if_pos rfl]
    rw [e1]
    exact AskP.more z (by omega)
  · obtain rfl : L = 1 := by have : (1 : Int) = (L : Int) := us; omega
    refine do_table h 13 p q nm a 1 cp (by omega) (by omega) fun No2 W k hn m => ?_
    refine (ask_pairs m hc (v.below k) (fun g off e => hn g (no g off e)) le f0 hs nm p q).mono fun e w' z => ?_
    have e1 : opF 13 F t s = ((prl t.p, 0), t, s) := by
      unfold opF; rw [if_neg (by decide), if_neg (by decide), if_neg (by decide)]
    rw [e1]
    exact AskP.more z (by omega)
end Go.Proofs.YtpmmploedkbeoaaGreatDoor

/- A reply within a list of replies. -/
namespace Go.Proofs.YtpmmploedkbeoaaGreatDoor
open Go.RowKit

/-- A reply as it lies in block N from o on, to be written. -/
structure Ro (w : World) (N o : Nat) (v : Value) (e : Int) : Prop where
  c0 : w.cell? ⟨N, o, none⟩ = some (v)
  c1 : w.cell? ⟨N, o + 1, none⟩ = some (.int .i64 e)
  c2 : w.cell? ⟨N, o + 2, none⟩ = some (.int .i64 0)
  c3 : w.cell? ⟨N, o + 3, none⟩ = some (.slice none 0 0)
  c4 : w.cell? ⟨N, o + 4, none⟩ = some (.slice none 0 0)
  c5 : w.cell? ⟨N, o + 5, none⟩ = some (.int .i64 0)
  c6 : w.cell? ⟨N, o + 6, none⟩ = some (.int .i64 0)
  c7 : w.cell? ⟨N, o + 7, none⟩ = some (.int .i64 0)
  c8 : w.cell? ⟨N, o + 8, none⟩ = some (.int .i64 0)
  c9 : w.cell? ⟨N, o + 9, none⟩ = some (.int .i64 0)
  c10 : w.cell? ⟨N, o + 10, none⟩ = some (.int .i64 0)
  fz : ∀ j, w.frozen? ⟨N, j, none⟩ = false
  lt : N < w.heap.size
theorem Ro.block {w w' : World} {N o : Nat} {v : Value} {e : Int} (h : Ro w N o v e) (q : w'.heap[N]? = w.heap[N]?) (hs : w.heap.size ≤ w'.heap.size) : Ro w' N o v e :=
  ⟨by rw [World.cell?_of_block (w := w) q]; exact h.c0, by rw [World.cell?_of_block (w := w) q]; exact h.c1, by rw [World.cell?_of_block (w := w) q]; exact h.c2, by rw [World.cell?_of_block (w := w) q]; exact h.c3, by rw [World.cell?_of_block (w := w) q]; exact h.c4, by rw [World.cell?_of_block (w := w) q]; exact h.c5, by rw [World.cell?_of_block (w := w) q]; exact h.c6, by rw [World.cell?_of_block (w := w) q]; exact h.c7, by rw [World.cell?_of_block (w := w) q]; exact h.c8, by rw [World.cell?_of_block (w := w) q]; exact h.c9, by rw [World.cell?_of_block (w := w) q]; exact h.c10, fun j => by rw [World.frozen?_of_block (w := w) q]; exact h.fz j, Nat.lt_of_lt_of_le h.lt hs⟩
theorem Ro.kept {No : Nat → Prop} {w w' : World} {N o : Nat} {v : Value} {e : Int} (h : Ro w N o v e) (k : Keep No w w') (hn : No N) : Ro w' N o v e := h.block (k.block N h.lt hn) k.size
theorem Ro.below {w w' : World} {N o : Nat} {v : Value} {e : Int} (h : Ro w N o v e) (k : Below w.heap.size w w') : Ro w' N o v e := h.kept (No := fun _ => True) (Keep.of k) trivial
def seto (w : World) (N o : Nat) (v : Value) (e : Int) : World := w.setCells N o (cs11 v e).toList
theorem Ro.there {w : World} {N o : Nat} {v : Value} {e : Int} (h : Ro w N o v e) : w.there N o 11 := fun j hj => ⟨by
    obtain rfl | rfl | rfl | rfl | rfl | rfl | rfl | rfl | rfl | rfl | rfl : j = 0 ∨ j = 1 ∨ j = 2 ∨ j = 3 ∨ j = 4 ∨ j = 5 ∨ j = 6 ∨ j = 7 ∨ j = 8 ∨ j = 9 ∨ j = 10 := by omega
    · rw [Nat.add_zero, h.c0]; rfl
    · rw [h.c1]; rfl
    · rw [h.c2]; rfl
    · rw [h.c3]; rfl
    · rw [h.c4]; rfl
    · rw [h.c5]; rfl
    · rw [h.c6]; rfl
    · rw [h.c7]; rfl
    · rw [h.c8]; rfl
    · rw [h.c9]; rfl
    · rw [h.c10]; rfl, h.fz _⟩
theorem Ro.set {w : World} {N o : Nat} {v0 : Value} {e0 : Int} (h : Ro w N o v0 e0) (v : Value) (e : Int) : Ro (seto w N o v e) N o v e := by
  have k : ∀ j u, (cs11 v e).toList[j]? = some u → (seto w N o v e).cell? ⟨N, o + j, none⟩ = some u := fun j u q => World.rangeAt_setCells_same w N o (cs11 v e).toList h.there j u q
  exact ⟨k 0 _ rfl, k 1 _ rfl, k 2 _ rfl, k 3 _ rfl, k 4 _ rfl, k 5 _ rfl, k 6 _ rfl, k 7 _ rfl, k 8 _ rfl, k 9 _ rfl, k 10 _ rfl, fun j => by unfold seto; rw [World.frozen?_setCells]; exact h.fz j, by
    have := h.lt
    unfold seto
    rw [size_setCells']
    exact this⟩
theorem Ro.other {w : World} {N o o2 : Nat} {v : Value} {e : Int} (h : Ro w N o v e) (hne : o + 11 ≤ o2 ∨ o2 + 11 ≤ o) (v2 : Value) (e2 : Int) : Ro (seto w N o2 v2 e2) N o v e := by
  have k : ∀ j, j < 11 → (seto w N o2 v2 e2).cell? ⟨N, o + j, none⟩ = w.cell? ⟨N, o + j, none⟩ := fun j hj => World.cell?_setCells_out N (cs11 v2 e2).toList o2 w ⟨N, o + j, none⟩ (fun _ _ => by show o + j < o2 ∨ o2 + 11 ≤ o + j; omega)
  have k0 : (seto w N o2 v2 e2).cell? ⟨N, o, none⟩ = w.cell? ⟨N, o, none⟩ := k 0 (by omega)
  exact ⟨k0.trans h.c0, (k 1 (by omega)).trans h.c1, (k 2 (by omega)).trans h.c2, (k 3 (by omega)).trans h.c3, (k 4 (by omega)).trans h.c4, (k 5 (by omega)).trans h.c5, (k 6 (by omega)).trans h.c6, (k 7 (by omega)).trans h.c7, (k 8 (by omega)).trans h.c8, (k 9 (by omega)).trans h.c9, (k 10 (by omega)).trans h.c10, fun j => by unfold seto; rw [World.frozen?_setCells]; exact h.fz j, by
    have := h.lt
    unfold seto
    rw [size_setCells']
    exact this⟩
theorem keep_seto {No : Nat → Prop} {w w1 : World} (h : Keep No w w1) {N o : Nat} (hN : ¬ No N) (v : Value) (e : Int) : Keep No w (seto w1 N o v e) := by
  have k : Keep (fun g => g ≠ N) w1 (seto w1 N o v e) := by
    refine ⟨World.os_setCells _ _ _ _, ?_, World.output_setCells _ _ _ _, by unfold seto; rw [size_setCells']; exact Nat.le_refl _, fun g hg hn => World.heap_setCells_other _ _ _ _ hg hn⟩
    exact tape_setCells' _ _ _ _
  exact h.trans (k.sub (fun g q e => hN (e ▸ q)))
theorem Ro.steps {U : World} {N o : Nat} {v0 : Value} {e0 : Int} (h : Ro U N o v0 e0) (v : Value) (e : Int) :
    ∃ U1 U2 U3 U4 U5 U6 U7 U8 U9 U10 U11 : World, (U.frozen? ⟨N, o, none⟩ = false ∧ U.cell? ⟨N, o, none⟩ = some (v0)) ∧ (U.setCell ⟨N, o, none⟩ (v) = U1 ∧ U1.frozen? ⟨N, o + 1, none⟩ = false ∧ U1.cell? ⟨N, o + 1, none⟩ = some (.int .i64 e0)) ∧ (U1.setCell ⟨N, o + 1, none⟩ (.int .i64 e) = U2 ∧ U2.frozen? ⟨N, o + 2, none⟩ = false ∧ U2.cell? ⟨N, o + 2, none⟩ = some (.int .i64 0)) ∧ (U2.setCell ⟨N, o + 2, none⟩ (.int .i64 0) = U3 ∧ U3.frozen? ⟨N, o + 3, none⟩ = false ∧ U3.cell? ⟨N, o + 3, none⟩ = some (.slice none 0 0)) ∧ (U3.setCell ⟨N, o + 3, none⟩ (.slice none 0 0) = U4 ∧ U4.frozen? ⟨N, o + 4, none⟩ = false ∧ U4.cell? ⟨N, o + 4, none⟩ = some (.slice none 0 0)) ∧ (U4.setCell ⟨N, o + 4, none⟩ (.slice none 0 0) = U5 ∧ U5.frozen? ⟨N, o + 5, none⟩ = false ∧ U5.cell? ⟨N, o + 5, none⟩ = some (.int .i64 0)) ∧ (U5.setCell ⟨N, o + 5, none⟩ (.int .i64 0) = U6 ∧ U6.frozen? ⟨N, o + 6, none⟩ = false ∧ U6.cell? ⟨N, o + 6, none⟩ = some (.int .i64 0)) ∧ (U6.setCell ⟨N, o + 6, none⟩ (.int .i64 0) = U7 ∧ U7.frozen? ⟨N, o + 7, none⟩ = false ∧ U7.cell? ⟨N, o + 7, none⟩ = some (.int .i64 0)) ∧ (U7.setCell ⟨N, o + 7, none⟩ (.int .i64 0) = U8 ∧ U8.frozen? ⟨N, o + 8, none⟩ = false ∧ U8.cell? ⟨N, o + 8, none⟩ = some (.int .i64 0)) ∧ (U8.setCell ⟨N, o + 8, none⟩ (.int .i64 0) = U9 ∧ U9.frozen? ⟨N, o + 9, none⟩ = false ∧ U9.cell? ⟨N, o + 9, none⟩ = some (.int .i64 0)) ∧ (U9.setCell ⟨N, o + 9, none⟩ (.int .i64 0) = U10 ∧ U10.frozen? ⟨N, o + 10, none⟩ = false ∧ U10.cell? ⟨N, o + 10, none⟩ = some (.int .i64 0)) ∧ U10.setCell ⟨N, o + 10, none⟩ (.int .i64 0) = U11 ∧ seto U N o v e = U11 := by
  have ne : ∀ {W : World} {i j : Nat} (u : Value), i ≠ j → (W.setCell ⟨N, i, none⟩ u).cell? ⟨N, j, none⟩ = W.cell? ⟨N, j, none⟩ := fun u q => World.cell?_setCell_other _ _ _ _ (fun x => by injection x with _ x2; exact q x2)
  refine ⟨_, _, _, _, _, _, _, _, _, _, _, ⟨h.fz _, h.c0⟩, ⟨rfl, ?f1, ?c1⟩, ⟨rfl, ?f2, ?c2⟩, ⟨rfl, ?f3, ?c3⟩, ⟨rfl, ?f4, ?c4⟩, ⟨rfl, ?f5, ?c5⟩, ⟨rfl, ?f6, ?c6⟩, ⟨rfl, ?f7, ?c7⟩, ⟨rfl, ?f8, ?c8⟩, ⟨rfl, ?f9, ?c9⟩, ⟨rfl, ?f10, ?c10⟩, rfl, ?e⟩
  case f1 => simp only [World.frozen?_setCell]; exact h.fz _
  case c1 => rw [ne _ (by omega)]; exact h.c1
  case f2 => simp only [World.frozen?_setCell]; exact h.fz _
  case c2 => rw [ne _ (by omega), ne _ (by omega)]; exact h.c2
  case f3 => simp only [World.frozen?_setCell]; exact h.fz _
  case c3 => rw [ne _ (by omega), ne _ (by omega), ne _ (by omega)]; exact h.c3
  case f4 => simp only [World.frozen?_setCell]; exact h.fz _
  case c4 => rw [ne _ (by omega), ne _ (by omega), ne _ (by omega), ne _ (by omega)]; exact h.c4
  case f5 => simp only [World.frozen?_setCell]; exact h.fz _
  case c5 => rw [ne _ (by omega), ne _ (by omega), ne _ (by omega), ne _ (by omega), ne _ (by omega)]; exact h.c5
  case f6 => simp only [World.frozen?_setCell]; exact h.fz _
  case c6 => rw [ne _ (by omega), ne _ (by omega), ne _ (by omega), ne _ (by omega), ne _ (by omega), ne _ (by omega)]; exact h.c6
  case f7 => simp only [World.frozen?_setCell]; exact h.fz _
  case c7 => rw [ne _ (by omega), ne _ (by omega), ne _ (by omega), ne _ (by omega), ne _ (by omega), ne _ (by omega), ne _ (by omega)]; exact h.c7
  case f8 => simp only [World.frozen?_setCell]; exact h.fz _
  case c8 => rw [ne _ (by omega), ne _ (by omega), ne _ (by omega), ne _ (by omega), ne _ (by omega), ne _ (by omega), ne _ (by omega), ne _ (by omega)]; exact h.c8
  case f9 => simp only [World.frozen?_setCell]; exact h.fz _
  case c9 => rw [ne _ (by omega), ne _ (by omega), ne _ (by omega), ne _ (by omega), ne _ (by omega), ne _ (by omega), ne _ (by omega), ne _ (by omega), ne _ (by omega)]; exact h.c9
  case f10 => simp only [World.frozen?_setCell]; exact h.fz _
  case c10 => rw [ne _ (by omega), ne _ (by omega), ne _ (by omega), ne _ (by omega), ne _ (by omega), ne _ (by omega), ne _ (by omega), ne _ (by omega), ne _ (by omega), ne _ (by omega)]; exact h.c10
  case e => rfl
theorem TT.seto {No : Nat → Prop} {w : World} {T A b a S hb c : Nat} {t : TS} {s : H.St} (h : TT No w T A b a S hb c t s) {N o : Nat} (hN : No N) (v : Value) (e : Int) : TT No (Go.Proofs.YtpmmploedkbeoaaGreatDoor.seto w N o v e) T A b a S hb c t s := by
  have k : Keep (fun g => g ≠ N) w (Go.Proofs.YtpmmploedkbeoaaGreatDoor.seto w N o v e) := keep_seto (Keep.refl _ w) (fun q => q rfl) v e
  exact (h.frame2 k.os k.tape k.output k.size (fun g hg hn => k.block g hg (fun e => hn (e ▸ hN)))).sub (fun g q => .inl q)
theorem Mt.seto {No : Nat → Prop} {w : World} {M S hb c : Nat} {t : TS} {s : H.St} (h : Mt No w M S hb c t s) {N o : Nat} (hN : No N) (hM : M ≠ N) (hG : ∀ G cp, w.cell? ⟨M, 2, none⟩ = some (.slice (some ⟨G, 0, none⟩) 1 cp) → G ≠ N) (v : Value) (e : Int) : Mt No (Go.Proofs.YtpmmploedkbeoaaGreatDoor.seto w N o v e) M S hb c t s := by
  obtain ⟨G, cp, T, A, b, a, h1, h2, h3, h4, h5⟩ := h.ex
  have k : Keep (fun g => g ≠ N) w (Go.Proofs.YtpmmploedkbeoaaGreatDoor.seto w N o v e) := keep_seto (Keep.refl _ w) (fun q => q rfl) v e
  refine ⟨G, cp, T, A, b, a, h1.kept k hM, ?_, h3.seto hN v e, h4, h5⟩
  have q := k.block G (h3.nos h5) (hG G cp h1.c2)
  generalize Go.Proofs.YtpmmploedkbeoaaGreatDoor.seto w N o v e = W' at q ⊢
  rw [World.cell?_of_block (w := w) q]; exact h2
theorem info35 : (Tryz.prog.info? 35).map (fun i => (i.zero, i.size, i.bytes)) = some (some (rp (.slice none 0 0) 0), 11, 136) := by kernel_rfl
abbrev zeros11 (n : Nat) : Array Value := madeCells (rp (.slice none 0 0) 0).cells (n * 11)
theorem make_replies (m : Nat) (hm : m ≤ 65536) (W : World) : (Instr.makeSlice 23 (.int .i64 m) (.int .i64 m)).run Tryz.prog W = .ok (.slice (some ⟨W.heap.size, 0, none⟩) m m) (W.alloc (.cells (zeros11 m) 35)) := by
  obtain ⟨i0, hi, hz0, hz1, hz2⟩ := info_parts info35
  have h := run_make (P := Tryz.prog) W 23 35 i0 (rp (.slice none 0 0) 0) Tryz.underlying23 hi hz0 .i64 .i64 m m (by omega) (Int.le_refl _) (by rw [hz2]; omega) (by omega)
  rw [hz1] at h
  simpa using h
theorem made_reply (w : World) (n i : Nat) (hi : i < n) : Ro (w.alloc (.cells (zeros11 n) 35)) w.heap.size (i * 11) (.slice none 0 0) 0 := by
  have h := (MapKept.heap_alloc w (.cells (zeros11 n) 35)).1
  have e : ∀ j, j < 11 → (w.alloc (.cells (zeros11 n) 35)).cell? ⟨w.heap.size, i * 11 + j, none⟩ = (rp (.slice none 0 0) 0).cells[j]? := fun j hj => by
    rw [cell_of_row h]
    have h1 : i * 11 + j < n * 11 := by omega
    have hm : (i * 11 + j) % 11 = j := by omega
    have h' : i * 11 < n * 11 := by omega
    obtain rfl | rfl | rfl | rfl | rfl | rfl | rfl | rfl | rfl | rfl | rfl : j = 0 ∨ j = 1 ∨ j = 2 ∨ j = 3 ∨ j = 4 ∨ j = 5 ∨ j = 6 ∨ j = 7 ∨ j = 8 ∨ j = 9 ∨ j = 10 := by omega
    all_goals simp [zeros11, madeCells, Value.cells, h1, h', hm]
  exact ⟨e 0 (by omega), e 1 (by omega), e 2 (by omega), e 3 (by omega), e 4 (by omega), e 5 (by omega), e 6 (by omega), e 7 (by omega), e 8 (by omega), e 9 (by omega), e 10 (by omega), fun j => new_free w _ _ j, by simp⟩
end Go.Proofs.YtpmmploedkbeoaaGreatDoor

/- The walk of Play: a list of operations on a new machine. -/
namespace Go.Proofs.YtpmmploedkbeoaaGreatDoor
open Go.RowKit

/-- The state behind so many operations, from the first one behind Make on. -/
def stA (K : Nat → Int) (Fs : Nat → Nat → V) (t0 : TS) (s0 : H.St) : Nat → TS × H.St
  | 0 => (t0, s0)
  | i + 1 => (opF (K i) (Fs i) (stA K Fs t0 s0 i).1 (stA K Fs t0 s0 i).2).2
/-- A reply's values and error. -/
def rpA (K : Nat → Int) (Fs : Nat → Nat → V) (t0 : TS) (s0 : H.St) : Nat → List V × Int
  | 0 => ([(4, 1, ⟨#[]⟩)], 0)
  | i + 1 => (opF (K i) (Fs i) (stA K Fs t0 s0 i).1 (stA K Fs t0 s0 i).2).1
/-- A reply in the list of replies, its values apart. -/
structure RpA (No : Nat → Prop) (w : World) (B R j : Nat) (l : List V) (er : Int) : Prop where
  ex : ∃ x n c, Ro w R (j * 11) (.slice x n c) er ∧ Rq w B (.slice x n c) l ∧ (l ≠ [] → ∀ g off, x = some ⟨g, off, none⟩ → No g ∧ g ≠ R)
theorem Rq.keep' {No : Nat → Prop} {w w' : World} {B n c : Nat} {x : Option Addr} {l : List V} (h : Rq w B (.slice x n c) l) (k : Keep No w w') (hn : l ≠ [] → ∀ g off, x = some ⟨g, off, none⟩ → No g) : Rq w' B (.slice x n c) l := by
  obtain ⟨a, c', h1, h2, h3⟩ := h.ex
  injection h1 with h1 h4 h5
  subst h1 h5
  by_cases hl : l = []
  · subst hl
    exact ⟨x, c, by rw [h4], ⟨fun i hi => absurd hi (Nat.not_lt_zero _)⟩, h3⟩
  · exact ⟨x, c, by rw [h4], h2.keep k (hn hl), h3⟩
theorem RpA.keep {No No' : Nat → Prop} {w w' : World} {B R j : Nat} {l : List V} {er : Int} (h : RpA No w B R j l er) (k : Keep No w w') (hR : No R) (hn : ∀ g, No g → No' g) : RpA No' w' B R j l er := by
  obtain ⟨x, n, c, h1, h2, h3⟩ := h.ex
  exact ⟨x, n, c, h1.kept k hR, h2.keep' k (fun q g off e => (h3 q g off e).1), fun q g off e => ⟨hn g (h3 q g off e).1, (h3 q g off e).2⟩⟩
theorem RpA.seto {No : Nat → Prop} {w : World} {B R j i : Nat} {l : List V} {er : Int} (h : RpA No w B R j l er) (hne : j ≠ i) (v : Value) (e : Int) : RpA No (Go.Proofs.YtpmmploedkbeoaaGreatDoor.seto w R (i * 11) v e) B R j l er := by
  obtain ⟨x, n, c, h1, h2, h3⟩ := h.ex
  refine ⟨x, n, c, h1.other (by omega) v e, h2.keep' (No := fun g => g ≠ R) (keep_seto (Keep.refl _ w) (fun q => q rfl) v e) (fun q g off z => (h3 q g off z).2), h3⟩
/-- What a Play has come to behind i operations. -/
structure LI (K : Nat → Int) (Fs : Nat → Nat → V) (w : World) (M S hb R n i : Nat) (wr : World) : Prop where
  bl : Below w.heap.size w wr
  rs : ∀ j, i ≤ j → j < n → Ro wr R (j * 11) (.slice none 0 0) 0
  st : (i = 0 ∧ M0 (fun g => g < w.heap.size ∨ g = M ∨ g = R) wr M S hb 0) ∨ ∃ (i' : Nat) (No : Nat → Prop) (t0 : TS) (s0 : H.St), i = i' + 1 ∧ Ini t0 s0 ∧ Mt No wr M S hb (3 + 7 * i') (stA K Fs t0 s0 i').1 (stA K Fs t0 s0 i').2 ∧ (∀ g, g < w.heap.size → No g) ∧ No R ∧ (∀ j, j ≤ i' → TI (stA K Fs t0 s0 j).1.p ∧ H.Inv 0 (stA K Fs t0 s0 j).2) ∧ ∀ j, j < i → RpA No wr w.heap.size R j (rpA K Fs t0 s0 j).1 (rpA K Fs t0 s0 j).2
theorem Mt.inv {No : Nat → Prop} {w : World} {M S hb c : Nat} {t : TS} {s : H.St} (h : Mt No w M S hb c t s) : TI t.p ∧ H.Inv 0 s := by
  obtain ⟨G, cp, T, A, b, a, h1, h2, h3, h4, h5⟩ := h.ex
  exact ⟨h3.ti, h3.iv⟩
theorem Mt.M {No : Nat → Prop} {w : World} {M S hb c : Nat} {t : TS} {s : H.St} (h : Mt No w M S hb c t s) : No M := by
  obtain ⟨G, cp, T, A, b, a, h1, h2, h3, h4, h5⟩ := h.ex
  exact h4
/-- Behind the first operation. -/
theorem LI.first {K : Nat → Int} {Fs : Nat → Nat → V} {w : World} {M S hb R n : Nat} {wr W1 U : World} (h : LI K Fs w M S hb R n 0 wr) (hw : w.heap.size ≤ M ∧ M < R) (hn : 0 < n) (k1 : Below wr.heap.size wr W1) {x : Option Addr} {m c : Nat}
    (hq : Rq U W1.heap.size (.slice x m c) [(4, 1, ⟨#[]⟩)]) {t : TS} {s : H.St} {No2 : Nat → Prop} (hi : Ini t s) (hm : Mt No2 U M S hb 3 t s) (h2 : ∀ g, ((g < w.heap.size ∨ g = M ∨ g = R) ∨ (wr.heap.size ≤ g ∧ g < W1.heap.size)) → No2 g) (hx : ∀ g off, x = some ⟨g, off, none⟩ → No2 g)
    (k2 : Keep (fun g => ((g < w.heap.size ∨ g = M ∨ g = R) ∨ (wr.heap.size ≤ g ∧ g < W1.heap.size)) ∧ g ≠ M) W1 U) : LI K Fs w M S hb R n 1 (seto U R (0 * 11) (.slice x m c) 0) := by
  have r0 := h.rs 0 (Nat.le_refl _) hn
  have hR : R < wr.heap.size := r0.lt
  have kU : Keep (fun g => (g < w.heap.size ∨ g = R) ∧ g ≠ M) wr U := (Keep.of k1).trans (k2.sub (fun g q => ⟨.inl (q.1.elim .inl (fun e => .inr (.inr e))), q.2⟩))
  have kR : ∀ j, j < n → Ro U R (j * 11) (.slice none 0 0) 0 := fun j hj => (h.rs j (Nat.zero_le _) hj).kept kU ⟨.inr rfl, by omega⟩
  have hz := hq.low (B' := w.heap.size) (by have := h.bl.size; have := k1.size; omega)
  have hxR : ∀ g off, x = some ⟨g, off, none⟩ → No2 g ∧ g ≠ R := fun g off e => ⟨hx g off e, fun z => by
    obtain ⟨a, c', e1, e2, e3⟩ := hq.ex
    injection e1 with e1 _ _
    subst e1
    have := e3 g off e
    have := k1.size
    omega⟩
  refine ⟨?_, fun j hj hjn => (kR j hjn).other (by omega) _ _, .inr ⟨0, No2, t, s, rfl, hi, hm.seto (h2 R (.inl (.inr (.inr rfl)))) (by omega) (hm.apart (kR 0 hn).c0 (fun a q => by cases q)) _ _, fun g hg => h2 g (.inl (.inl hg)), h2 R (.inl (.inr (.inr rfl))), fun j hj => ?_, fun j hj => ?_⟩⟩
  · have kb : Keep (fun g => g < w.heap.size) w (seto U R (0 * 11) (.slice x m c) 0) := keep_seto ((Keep.of h.bl).trans (kU.sub (fun g q => ⟨.inl q, by omega⟩))) (fun q => by omega) _ _
    exact kb.below (Nat.le_refl _) (fun g q => q)
  · obtain rfl : j = 0 := by omega
    exact hm.inv
  · obtain rfl : j = 0 := by omega
    exact ⟨x, m, c, (kR 0 hn).set _ _, hz.keep' (No := fun g => g ≠ R) (keep_seto (Keep.refl _ U) (fun q => q rfl) _ _) (fun _ g off e => (hxR g off e).2), fun _ => hxR⟩
/-- Behind any other. -/
theorem LI.next {K : Nat → Int} {Fs : Nat → Nat → V} {w : World} {M S hb R n i' : Nat} {wr W1 U : World} (hw : w.heap.size ≤ M ∧ M < R) (bl : Below w.heap.size w wr) (rs : ∀ j, i' + 1 ≤ j → j < n → Ro wr R (j * 11) (.slice none 0 0) 0) {No : Nat → Prop} {t0 : TS} {s0 : H.St} (hi : Ini t0 s0)
    (hN : ∀ g, g < w.heap.size → No g) (hNR : No R) (hT : ∀ j, j ≤ i' → TI (stA K Fs t0 s0 j).1.p ∧ H.Inv 0 (stA K Fs t0 s0 j).2) (hrp : ∀ j, j < i' + 1 → RpA No wr w.heap.size R j (rpA K Fs t0 s0 j).1 (rpA K Fs t0 s0 j).2) (hn : i' + 1 < n) (k1 : Below wr.heap.size wr W1) {e : Ending}
    (h : AskP (fun g => No g ∨ (wr.heap.size ≤ g ∧ g < W1.heap.size)) W1 M S hb (3 + 7 * (i' + 1)) (stA K Fs t0 s0 (i' + 1)).1 (stA K Fs t0 s0 (i' + 1)).2 (rpA K Fs t0 s0 (i' + 1)).1 (rpA K Fs t0 s0 (i' + 1)).2 e U) (_hnos : ∀ g, No g → g < wr.heap.size) :
    ∃ x m c, e = .returned (rp (.slice x m c) (rpA K Fs t0 s0 (i' + 1)).2) ∧ Ro U R ((i' + 1) * 11) (.slice none 0 0) 0 ∧ LI K Fs w M S hb R n (i' + 2) (seto U R ((i' + 1) * 11) (.slice x m c) (rpA K Fs t0 s0 (i' + 1)).2) := by
  obtain ⟨⟨x, m, c, he, hq, No', hm, h2, hx⟩, k2⟩ := h
  have r0 := rs (i' + 1) (Nat.le_refl _) hn
  have hR : R < wr.heap.size := r0.lt
  have kU : Keep No wr U := (Keep.of k1).trans (k2.sub (fun g q => .inl q))
  have kR : ∀ j, i' + 1 ≤ j → j < n → Ro U R (j * 11) (.slice none 0 0) 0 := fun j h1 hj => (rs j h1 hj).kept kU hNR
  have hz := hq.low (B' := w.heap.size) (by have := bl.size; have := k1.size; omega)
  have hxR : (rpA K Fs t0 s0 (i' + 1)).1 ≠ [] → ∀ g off, x = some ⟨g, off, none⟩ → No' g ∧ g ≠ R := fun hl g off e => ⟨hx hl g off e, fun z => by
    obtain ⟨a, c', e1, e2, e3⟩ := hq.ex
    injection e1 with e1 _ _
    subst e1
    have := e3 g off e
    have := k1.size
    omega⟩
  have hMR : M ≠ R := by omega
  have hap : ∀ G cp, U.cell? ⟨M, 2, none⟩ = some (.slice (some ⟨G, 0, none⟩) 1 cp) → G ≠ R := by
    obtain ⟨x0, n0, c0, q1, _⟩ := ((hrp 0 (by omega)).keep kU hNR (fun g q => q)).ex
    have q2 : U.cell? ⟨R, 0, none⟩ = some (.slice x0 n0 c0) := by have := q1.c0; rwa [Nat.zero_mul] at this
    exact hm.apart q2 (fun a q => by cases q)
  refine ⟨x, m, c, he, kR _ (Nat.le_refl _) hn, ?_, fun j hj hjn => (kR j (by omega) hjn).other (by omega) _ _, .inr ⟨i' + 1, No', t0, s0, rfl, hi, hm.seto (h2 R (.inl hNR)) hMR hap _ _, fun g hg => h2 g (.inl (hN g hg)), h2 R (.inl hNR), fun j hj => ?_, fun j hj => ?_⟩⟩
  · have kb : Keep (fun g => g < w.heap.size) w (seto U R ((i' + 1) * 11) (.slice x m c) (rpA K Fs t0 s0 (i' + 1)).2) := keep_seto ((Keep.of bl).trans (kU.sub (fun g q => hN g q))) (fun q => by omega) _ _
    exact kb.below (Nat.le_refl _) (fun g q => q)
  · by_cases e : j ≤ i'
    · exact hT j e
    · obtain rfl : j = i' + 1 := by omega
      exact hm.inv
  · by_cases e : j < i' + 1
    · exact ((hrp j e).keep kU hNR (fun g q => h2 g (.inl q))).seto (by omega) _ _
    · obtain rfl : j = i' + 1 := by omega
      exact ⟨x, m, c, (kR _ (Nat.le_refl _) hn).set _ _, hz.keep' (No := fun g => g ≠ R) (keep_seto (Keep.refl _ U) (fun q => q rfl) _ _) (fun hl g off e => (hxR hl g off e).2), hxR⟩
end Go.Proofs.YtpmmploedkbeoaaGreatDoor
