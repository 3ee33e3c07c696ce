/- The walk of Step. -/
import Derived.Test.YtbgbhogcjaodkaaCg03
import Derived.Test.YtbgbhogcjaodkaaCg00
namespace Go.Proofs.Ytbgbhogcjaodkaa
open Go.RowKit Go.Shelf
attribute [local go_sem] Oper.semAt_some

/-- Where the rune behind the one at a place begins. -/
def nxB (s : ByteArray) (at' : Int) : Nat := if 0 < at' then (at' - 1).toNat + wd s (at' - 1).toNat else 0
def stR (s : ByteArray) (at' : Int) : Int × Int × Bool × Int :=
  if at' < 0 ∨ (s.size : Int) < at' then (0, 0, false, 1)
  else if s.size ≤ nxB s at' then (0, 0, false, 0)
  else if bdB s (nxB s at') = true then (0, 0, false, 3)
  else ((nxB s at' : Int) + 1, (rn s (nxB s at') : Int), true, 0)
def stV (r : Int × Int × Bool × Int) : Value := .tuple #[.int .i64 r.1, .int .i64 r.2.1, .bool r.2.2.1, .int .i64 r.2.2.2]
/-- The boxes of Step: the text, four answers. -/
structure Ls (W : World) (S : Nat) (s : ByteArray) (r : Int × Int × Bool × Int) : Prop where
  bs : Boxed W S 9 (.string s)
  bx : Boxed W (S + 1) 3 (.int .i64 r.1)
  bY : Boxed W (S + 2) 3 (.int .i64 r.2.1)
  bz : Boxed W (S + 3) 4 (.bool r.2.2.1)
  be : Boxed W (S + 4) 22 (.int .i64 r.2.2.2)
theorem Ls.kept {No : Nat → Prop} {W W' : World} {S : Nat} {s : ByteArray} {r : Int × Int × Bool × Int} (h : Ls W S s r) (k : Keep No W W') (hn : No S ∧ No (S + 1) ∧ No (S + 2) ∧ No (S + 3) ∧ No (S + 4)) : Ls W' S s r :=
  ⟨boxed_keep h.bs k hn.1, boxed_keep h.bx k hn.2.1, boxed_keep h.bY k hn.2.2.1, boxed_keep h.bz k hn.2.2.2.1, boxed_keep h.be k hn.2.2.2.2⟩
/-- All four answers set. -/
def set4 (W : World) (S : Nat) (r : Int × Int × Bool × Int) : World := (((W.setCell ⟨S + 1, 0, none⟩ (.int .i64 r.1)).setCell ⟨S + 2, 0, none⟩ (.int .i64 r.2.1)).setCell ⟨S + 3, 0, none⟩ (.bool r.2.2.1)).setCell ⟨S + 4, 0, none⟩ (.int .i64 r.2.2.2)
theorem Ls.set {W : World} {S : Nat} {s : ByteArray} {r : Int × Int × Bool × Int} (h : Ls W S s r) (q : Int × Int × Bool × Int) : Ls (set4 W S q) S s q := by
  unfold set4
  exact ⟨(((h.bs.other (by omega) _).other (by omega) _).other (by omega) _).other (by omega) _,
    (((h.bx.set _).other (by omega) _).other (by omega) _).other (by omega) _,
    (((h.bY.other (by omega) _).set _).other (by omega) _).other (by omega) _,
    (((h.bz.other (by omega) _).other (by omega) _).set _).other (by omega) _,
    (((h.be.other (by omega) _).other (by omega) _).other (by omega) _).set _⟩
theorem keep_set4 {No : Nat → Prop} {w W : World} {S : Nat} (h : Keep No w W) (hn : ¬ No (S + 1) ∧ ¬ No (S + 2) ∧ ¬ No (S + 3) ∧ ¬ No (S + 4)) (q : Int × Int × Bool × Int) : Keep No w (set4 W S q) :=
  (((h.set (p := ⟨S + 1, 0, none⟩) hn.1 _).set (p := ⟨S + 2, 0, none⟩) hn.2.1 _).set (p := ⟨S + 3, 0, none⟩) hn.2.2.1 _).set (p := ⟨S + 4, 0, none⟩) hn.2.2.2 _
theorem others_set4 (W : World) (S : Nat) (q : Int × Int × Bool × Int) : KeepsOthers W (set4 W S q) :=
  (((KeepsOthers.setCell _ _ _).trans (KeepsOthers.setCell _ _ _)).trans (KeepsOthers.setCell _ _ _)).trans (KeepsOthers.setCell _ _ _)
theorem Ls.made (w : World) (s : ByteArray) : Ls (((((w.alloc (.cells #[.string s] 9)).alloc (.cells #[.int .i64 0] 3)).alloc (.cells #[.int .i64 0] 3)).alloc (.cells #[.bool false] 4)).alloc (.cells #[.int .i64 0] 22)) w.heap.size s (0, 0, false, 0) := by
  have e1 : (w.alloc (.cells #[.string s] 9)).heap.size = w.heap.size + 1 := by simp
  have e2 : ((w.alloc (.cells #[.string s] 9)).alloc (.cells #[.int .i64 0] 3)).heap.size = w.heap.size + 2 := by simp
  have e3 : (((w.alloc (.cells #[.string s] 9)).alloc (.cells #[.int .i64 0] 3)).alloc (.cells #[.int .i64 0] 3)).heap.size = w.heap.size + 3 := by simp
  have e4 : ((((w.alloc (.cells #[.string s] 9)).alloc (.cells #[.int .i64 0] 3)).alloc (.cells #[.int .i64 0] 3)).alloc (.cells #[.bool false] 4)).heap.size = w.heap.size + 4 := by simp
  have q0 := Boxed.new w 9 (.string s)
  have q1 := Boxed.new (w.alloc (.cells #[.string s] 9)) 3 (.int .i64 0)
  have q2 := Boxed.new ((w.alloc (.cells #[.string s] 9)).alloc (.cells #[.int .i64 0] 3)) 3 (.int .i64 0)
  have q3 := Boxed.new (((w.alloc (.cells #[.string s] 9)).alloc (.cells #[.int .i64 0] 3)).alloc (.cells #[.int .i64 0] 3)) 4 (.bool false)
  have q4 := Boxed.new ((((w.alloc (.cells #[.string s] 9)).alloc (.cells #[.int .i64 0] 3)).alloc (.cells #[.int .i64 0] 3)).alloc (.cells #[.bool false] 4)) 22 (.int .i64 0)
  rw [e1] at q1
  rw [e2] at q2
  rw [e3] at q3
  rw [e4] at q4
  exact ⟨(((q0.alloc _).alloc _).alloc _).alloc _, ((q1.alloc _).alloc _).alloc _, (q2.alloc _).alloc _, q3.alloc _, q4⟩
/-- The three boxes of between. -/
theorem It.made (WN : World) (s : ByteArray) (a b : Int) (Ks : Nat → Prop) (hK : ∀ g, WN.heap.size ≤ g → g < WN.heap.size + 3 → Ks g) : It (((WN.alloc (.cells #[.string s] 9)).alloc (.cells #[.int .i64 a] 3)).alloc (.cells #[.int .i64 b] 3)) Ks WN.heap.size s a b := by
  have e1 : (WN.alloc (.cells #[.string s] 9)).heap.size = WN.heap.size + 1 := by simp
  have e2 : ((WN.alloc (.cells #[.string s] 9)).alloc (.cells #[.int .i64 a] 3)).heap.size = WN.heap.size + 2 := by simp
  have q0 := Boxed.new WN 9 (.string s)
  have q1 := Boxed.new (WN.alloc (.cells #[.string s] 9)) 3 (.int .i64 a)
  have q2 := Boxed.new ((WN.alloc (.cells #[.string s] 9)).alloc (.cells #[.int .i64 a] 3)) 3 (.int .i64 b)
  rw [e1] at q1
  rw [e2] at q2
  exact ⟨((q0.alloc _).alloc _).cell, (q1.alloc _).cell, q2.cell, hK _ (by omega) (by omega), hK _ (by omega) (by omega), hK _ (by omega) (by omega)⟩
theorem bel3 (WN : World) (s : ByteArray) (a b : Int) : Below WN.heap.size WN (((WN.alloc (.cells #[.string s] 9)).alloc (.cells #[.int .i64 a] 3)).alloc (.cells #[.int .i64 b] 3)) := bthen (bthen (b1 _ _) (by simp) (b1 _ _)) (by simp; omega) (b1 _ _)
theorem Ls.cells {W : World} {S : Nat} {s : ByteArray} {r : Int × Int × Bool × Int} (h : Ls W S s r) : W.cell? ⟨S + 1, 0, none⟩ = some (.int .i64 r.1) ∧ W.cell? ⟨S + 1 + 1, 0, none⟩ = some (.int .i64 r.2.1) ∧ W.cell? ⟨S + 1 + 1 + 1, 0, none⟩ = some (.bool r.2.2.1) ∧ W.cell? ⟨S + 1 + 1 + 1 + 1, 0, none⟩ = some (.int .i64 r.2.2.2) ∧ W.frozen? ⟨S + 1, 0, none⟩ = false ∧ W.frozen? ⟨S + 1 + 1, 0, none⟩ = false ∧ W.frozen? ⟨S + 1 + 1 + 1, 0, none⟩ = false ∧ W.frozen? ⟨S + 1 + 1 + 1 + 1, 0, none⟩ = false :=
  ⟨h.bx.cell, h.bY.cell, h.bz.cell, h.be.cell, h.bx.frozen, h.bY.frozen, h.bz.frozen, h.be.frozen⟩
/-- What Step answers of the rune that is found. -/
def resx (s : ByteArray) (x : Fin s.size) : Int × Int × Bool × Int := if bdB s x.1 = true then (0, 0, false, 3) else ((x.1 : Int) + 1, (rn s x.1 : Int), true, 0)
theorem bw_none {s : ByteArray} {k : Nat} (h : bw s k s.size = []) : s.size ≤ k := by
  rcases Nat.lt_or_ge k s.size with a | a
  · rw [bw_at a (by omega)] at h; cases h
  · exact a
theorem bw_first {s : ByteArray} {k : Nat} {x : Fin s.size} (h : [x].map (rA s) <+: bw s k s.size) : x.1 = k := by
  rcases Nat.lt_or_ge k s.size with a | a
  · rw [bw_at a (by omega)] at h
    obtain ⟨r, hr⟩ := h
    simp only [List.map_cons, List.map_nil, List.cons_append, List.nil_append, List.cons.injEq] at hr
    have := congrArg Prod.fst hr.1
    exact this
  · rw [bw_end (by omega)] at h
    obtain ⟨r, hr⟩ := h
    cases hr
theorem stR_end {s : ByteArray} {t : Int} {k : Nat} (h : 0 ≤ t ∧ t ≤ s.size ∧ nxB s t = k) (hk : s.size ≤ k) : stR s t = (0, 0, false, 0) := by
  unfold stR; rw [if_neg (by omega), h.2.2, if_pos hk]
theorem stR_some {s : ByteArray} {t : Int} {k : Nat} (h : 0 ≤ t ∧ t ≤ s.size ∧ nxB s t = k) (x : Fin s.size) (hx : x.1 = k) : stR s t = resx s x := by
  have := x.2
  unfold stR resx; rw [if_neg (by omega), h.2.2, ← hx, if_neg (by omega)]
set_option maxRecDepth 100000 in
set_option maxHeartbeats 4000000 in
theorem step_0 (s : ByteArray) (w : World) (hs : s.size ≤ 140737488351232) :
    CallsIn Fence.wide 6 Try.prog 19 #[.string s, .int .i64 0] w fun e w' => e = .returned (stV (stR s 0)) ∧ Below w.heap.size w w' := by
  have LS := Ls.made w s
  have BA : Below w.heap.size w (((((w.alloc (.cells #[.string s] 9)).alloc (.cells #[.int .i64 0] 3)).alloc (.cells #[.int .i64 0] 3)).alloc (.cells #[.bool false] 4)).alloc (.cells #[.int .i64 0] 22)) := bthen (bthen (bthen (bthen (b1 w _) (by simp) (b1 _ _)) (by simp; omega) (b1 _ _)) (by simp; omega) (b1 _ _)) (by simp; omega) (b1 _ _)
  have hS1 : (((((w.alloc (.cells #[.string s] 9)).alloc (.cells #[.int .i64 0] 3)).alloc (.cells #[.int .i64 0] 3)).alloc (.cells #[.bool false] 4)).alloc (.cells #[.int .i64 0] 22)).heap.size = w.heap.size + 5 := by simp
  obtain ⟨W1, hW1⟩ : ∃ W1, ((((w.alloc (.cells #[.string s] 9)).alloc (.cells #[.int .i64 0] 3)).alloc (.cells #[.int .i64 0] 3)).alloc (.cells #[.bool false] 4)).alloc (.cells #[.int .i64 0] 22) = W1 := ⟨_, rfl⟩
  rw [hW1] at LS BA hS1
  have HS1 : Hid (W1.heap.size = w.heap.size + 5) := hS1
  clear hS1
  have c0 := LS.bs.cell
  obtain ⟨R, hR⟩ : ∃ R, stR s 0 = R := ⟨_, rfl⟩
  rw [hR]
  have hsz : ¬ (s.size : Int) < 0 := by omega
  have hT : 0 ≤ (0 : Int) ∧ (0 : Int) ≤ s.size ∧ nxB s 0 = 0 := ⟨by omega, by omega, rfl⟩
  refine callsIn_of_wp_marks Try.func19 rfl trivial ?_ rfl
  simp only [Try.ntmps19, List.size_toArray, List.length_cons, List.length_nil, Nat.reduceAdd, Nat.reduceSub, Array.replicate_succ, Array.replicate_zero, List.push_toArray, List.append_toArray, List.nil_append, List.cons_append]
  refine wpIn_wide.2 ?_
  go_wp2_with (go_at_call 26; refine (between_any _ _ _ _).mono ?_; rintro e w1 ⟨rfl, hw1⟩; subst w1)
  have LN := LS
  have BN := BA
  have HWN : Hid (w.heap.size + 5 ≤ W1.heap.size) := by show _ ≤ _; have := HS1.out; omega
  clear LS BA HS1 c0 hW1
  generalize W1 = WN at *
  have BL := bel3 WN s 1 s.size
  have IL : It (((WN.alloc (.cells #[.string s] 9)).alloc (.cells #[.int .i64 1] 3)).alloc (.cells #[.int .i64 s.size] 3)) (fun g => g < WN.heap.size + 3) WN.heap.size s (((0 : Nat) : Int) + 1) s.size := by
    rw [show (((0 : Nat) : Int) + 1) = 1 by omega]
    exact It.made WN s 1 s.size _ (fun g q1 q2 => q2)
  have hSL : (((WN.alloc (.cells #[.string s] 9)).alloc (.cells #[.int .i64 1] 3)).alloc (.cells #[.int .i64 s.size] 3)).heap.size = WN.heap.size + 3 := by simp
  generalize ((WN.alloc (.cells #[.string s] 9)).alloc (.cells #[.int .i64 1] 3)).alloc (.cells #[.int .i64 s.size] 3) = WL at *
  rw [← hSL] at IL
  have LBL : Ls WL w.heap.size s (0, 0, false, 0) := LN.kept (No := fun _ => True) (Keep.of BL) ⟨trivial, trivial, trivial, trivial, trivial⟩
  have BW : Below w.heap.size w WL := bthen BN BN.size BL
  have HSL : Hid (w.heap.size + 8 ≤ WL.heap.size) := by show _ ≤ _; have := HWN.out; omega
  clear BL hSL BN LN HWN
  refine (wpIn_wide (n := 6)).1 ?_
  refine wpIn_rangeFunc_ownH (n := 6) rfl (by omega) (gf := 41) (lb := #[.pointer (some ⟨WN.heap.size + 1, 0, none⟩), .pointer (some ⟨WN.heap.size + 2, 0, none⟩), .pointer (some ⟨WN.heap.size, 0, none⟩)]) rfl trivial (enters_of Try.func41 (by kernel_rfl) rfl)
    (iter_stops (fun g => g < WL.heap.size) WN.heap.size s (0) s.size hs (by omega) WL (fun g q => q) IL) keepK_t (keepK_b (fun g q => q)) (Below.refl _ _) (fun _ => rfl)
    (fun pre W => pre = [] ∧ Ls W w.heap.size s (0, 0, false, 0) ∧ Keep (fun g => g < WL.heap.size) WL W)
    (fun cd pre W => cd = .ret ∧ ∃ x, pre = [x] ∧ Ls W w.heap.size s (resx s x) ∧ Keep (fun g => g < w.heap.size) WL W)
    (ownFrom_of fun st W W' hst hk => ⟨hst.1, hst.2.1.kept hk (by have := HSL.out; exact ⟨by omega, by omega, by omega, by omega, by omega⟩), hst.2.2.trans hk⟩)
    (fun cd => ownFrom_of fun st W W' hst hk => by
      obtain ⟨h1, x, h2, h3, h4⟩ := hst
      exact ⟨h1, x, h2, h3.kept hk (by have := HSL.out; exact ⟨by omega, by omega, by omega, by omega, by omega⟩), h4.trans (hk.sub (fun g q => by have := HSL.out; omega))⟩)
    ⟨rfl, LBL, Keep.refl _ _⟩
    (fun x a' W => a' = { tmps := #[.string s, .int .i64 0, .pointer (some ⟨w.heap.size, 0, none⟩), undef, .pointer (some ⟨w.heap.size + 1, 0, none⟩), .pointer (some ⟨w.heap.size + 1 + 1, 0, none⟩), .pointer (some ⟨w.heap.size + 1 + 1 + 1, 0, none⟩), .pointer (some ⟨w.heap.size + 1 + 1 + 1 + 1, 0, none⟩), .int .i64 1, undef, undef, .int .i64 ((x.1 : Int) + 1), .int .i32 (rn s x.1), .int .i64 0, .bool false, .bool false, .int .i64 0, .string s, .int .i64 s.size, .bool false, .bool false, .int .i64 0, .bool false, undef, undef, undef, undef, undef, undef, undef, undef, undef, undef, undef, .string s, .int .i64 1, .string s, .int .i64 s.size, (.func (.func 41) #[] #[.pointer (some ⟨WN.heap.size + 1, 0, none⟩), .pointer (some ⟨WN.heap.size + 2, 0, none⟩), .pointer (some ⟨WN.heap.size, 0, none⟩)]), .int .i64 ((x.1 : Int) + 1), .int .i32 (rn s x.1), undef, undef, undef, undef, undef, undef, undef], defers := [] })
    (fun x a' => fun _ A' B' row hst hg hr => hst) ?assign ?body ?done ?stop
  case assign =>
    rintro l pre x W K hI hK
    unfold encP
    gi_wp2
    exact hK _ _ ((KeepsOthers.refl W).from _) ⟨Keep.refl _ _, KeepsWalks.refl _⟩ hI rfl
  case body =>
    rintro l pre x a' W hl _ ⟨hpre0, hL, hkw⟩ rfl hlt
    have hpre : Hid (pre = []) := hpre0
    clear hpre0
    have CI := fun W => CallsIn.inRound l (callsIn_wide (n := 3).2 (invalid_any s x.1 W hs x.2))
    have c0 := hL.bs.cell
    have hrl := rn_le s x.1
    have hxl := x.2
    have HO : Hid (∀ w1, Below W.heap.size W w1 → KeepsOthers W w1) := fun w1 hb1 => KeepsOthers.of_grownBy (grown_of_below hb1) (fun j o e => by cases e)
    clear hR hT hsz hl hlt
    cases hbd : bdB s x.1 with
    | false =>
      have er : resx s x = ((x.1 : Int) + 1, (rn s x.1 : Int), true, 0) := by unfold resx; rw [hbd]; rfl
      rw [hbd] at CI
      gi_wp2_with (refine ⟨trivial, ?_⟩; gi_at_call 27; refine (CI _).mono ?_; rintro e w2 ⟨rfl, hb1⟩; have L1 := hL.kept (No := fun _ => True) (Keep.of hb1) ⟨trivial, trivial, trivial, trivial, trivial⟩; have c1 := L1.bx.cell; have c2 := L1.bY.cell; have c3 := L1.bz.cell; have c4 := L1.be.cell; have f1 := L1.bx.frozen; have f2 := L1.bY.frozen; have f3 := L1.bz.frozen; have f4 := L1.be.frozen)
      have LZ := L1.set ((x.1 : Int) + 1, (rn s x.1 : Int), true, 0)
      refine ⟨((HO.out _ hb1).trans (others_set4 w2 w.heap.size ((x.1 : Int) + 1, (rn s x.1 : Int), true, 0))).from _, rfl, x, by rw [hpre.out]; rfl, ?_, ?_⟩
      · rw [er]; exact LZ
      · exact keep_set4 (No := fun g => g < w.heap.size) (S := w.heap.size) ((hkw.sub (fun g q => by have := HSL.out; have q' : g < w.heap.size := q; show g < WL.heap.size; omega)).trans (Keep.of hb1)) ⟨by omega, by omega, by omega, by omega⟩ ((x.1 : Int) + 1, (rn s x.1 : Int), true, 0)
    | true =>
      have er : resx s x = (0, 0, false, 3) := by unfold resx; rw [hbd]; rfl
      rw [hbd] at CI
      gi_wp2_with (refine ⟨trivial, ?_⟩; gi_at_call 27; refine (CI _).mono ?_; rintro e w2 ⟨rfl, hb1⟩; have L1 := hL.kept (No := fun _ => True) (Keep.of hb1) ⟨trivial, trivial, trivial, trivial, trivial⟩; have c1 := L1.bx.cell; have c2 := L1.bY.cell; have c3 := L1.bz.cell; have c4 := L1.be.cell; have f1 := L1.bx.frozen; have f2 := L1.bY.frozen; have f3 := L1.bz.frozen; have f4 := L1.be.frozen)
      have LZ := L1.set (0, 0, false, 3)
      refine ⟨((HO.out _ hb1).trans (others_set4 w2 w.heap.size (0, 0, false, 3))).from _, rfl, x, by rw [hpre.out]; rfl, ?_, ?_⟩
      · rw [er]; exact LZ
      · exact keep_set4 (No := fun g => g < w.heap.size) (S := w.heap.size) ((hkw.sub (fun g q => by have := HSL.out; have q' : g < w.heap.size := q; show g < WL.heap.size; omega)).trans (Keep.of hb1)) ⟨by omega, by omega, by omega, by omega⟩ (0, 0, false, 3)
  case done =>
    rintro D xs W hD hxs ⟨hpre, hL, hkw⟩ hK
    have eR : R = (0, 0, false, 0) := by
      rw [← hR]
      subst hpre
      exact stR_end hT (bw_none hxs.symm)
    subst eR
    have c1 := hL.bx.cell
    have c2 : W.cell? ⟨w.heap.size + 1 + 1, 0, none⟩ = _ := hL.bY.cell
    have c3 : W.cell? ⟨w.heap.size + 1 + 1 + 1, 0, none⟩ = _ := hL.bz.cell
    have c4 : W.cell? ⟨w.heap.size + 1 + 1 + 1 + 1, 0, none⟩ = _ := hL.be.cell
    have f1 := hL.bx.frozen
    have f2 : W.frozen? ⟨w.heap.size + 1 + 1, 0, none⟩ = _ := hL.bY.frozen
    have f3 : W.frozen? ⟨w.heap.size + 1 + 1 + 1, 0, none⟩ = _ := hL.bz.frozen
    have f4 : W.frozen? ⟨w.heap.size + 1 + 1 + 1 + 1, 0, none⟩ = _ := hL.be.frozen
    have HZ : Hid (_ ∧ _ ∧ _) := ⟨hL.set (0, 0, false, 0), keep_set4 (S := w.heap.size) (hkw.sub (No' := fun g => g < w.heap.size) (fun g q => by have := HSL.out; show g < WL.heap.size; omega)) ⟨by omega, by omega, by omega, by omega⟩ (0, 0, false, 0), others_set4 W w.heap.size (0, 0, false, 0)⟩
    clear hR
    go_wp2
    obtain ⟨LZ, kZ, kO⟩ := HZ.out
    have hK2 := kO.same D _ hK rfl
    refine ⟨by simp, .inl ⟨_, _, rfl, run_takeDeferred hK2, ?_⟩⟩
    have kD : Keep (fun g => g < WL.heap.size) _ (World.putObj _ D (.deferred none)) := (keepK_b (w := WL) (fun g q => q) _ D _ _ hD hK2 rfl rfl).1
    have LD := LZ.kept kD (by have := HSL.out; exact ⟨by omega, by omega, by omega, by omega, by omega⟩)
    have o0 := LD.bx.cell
    have o1 : World.cell? _ ⟨w.heap.size + 1 + 1, 0, none⟩ = _ := LD.bY.cell
    have o2 : World.cell? _ ⟨w.heap.size + 1 + 1 + 1, 0, none⟩ = _ := LD.bz.cell
    have o3 : World.cell? _ ⟨w.heap.size + 1 + 1 + 1 + 1, 0, none⟩ = _ := LD.be.cell
    unfold set4 at o0 o1 o2 o3
    exact ⟨stV (0, 0, false, 0), by simp [results, Try.results19, go_sem, o0, o1, o2, o3, stV], rfl, BW.trans ((kZ.trans (kD.sub (fun g q => by have := HSL.out; have q' : g < w.heap.size := q; show g < WL.heap.size; omega))).below (by have := HSL.out; omega) (fun g q => q))⟩
  case stop =>
    rintro D cd pre W hD hpre ⟨rfl, x, rfl, hL, hkw⟩ hK
    have eR : R = resx s x := by
      rw [← hR]
      exact stR_some hT x (bw_first hpre)
    subst eR
    gi_wp2
    refine ⟨by simp, .inl ⟨_, _, rfl, run_takeDeferred hK, ?_⟩⟩
    have kD : Keep (fun g => g < WL.heap.size) W (W.putObj D (.deferred none)) := (keepK_b (w := WL) (fun g q => q) _ D _ _ hD hK rfl rfl).1
    have LD := hL.kept kD (by have := HSL.out; exact ⟨by omega, by omega, by omega, by omega, by omega⟩)
    have o0 := LD.bx.cell
    have o1 : World.cell? _ ⟨w.heap.size + 1 + 1, 0, none⟩ = _ := LD.bY.cell
    have o2 : World.cell? _ ⟨w.heap.size + 1 + 1 + 1, 0, none⟩ = _ := LD.bz.cell
    have o3 : World.cell? _ ⟨w.heap.size + 1 + 1 + 1 + 1, 0, none⟩ = _ := LD.be.cell
    exact ⟨stV (resx s x), by simp [results, Try.results19, go_sem, o0, o1, o2, o3, stV], rfl, BW.trans ((hkw.trans (kD.sub (fun g q => by have := HSL.out; have q' : g < w.heap.size := q; show g < WL.heap.size; omega))).below (by have := HSL.out; omega) (fun g q => q))⟩
set_option maxRecDepth 100000 in
set_option maxHeartbeats 4000000 in
theorem step_p (s : ByteArray) (p : Nat) (hp : p < s.size) (w : World) (hs : s.size ≤ 140737488351232) :
    CallsIn Fence.wide 6 Try.prog 19 #[.string s, .int .i64 ((p : Int) + 1)] w fun e w' => e = .returned (stV (stR s ((p : Int) + 1))) ∧ Below w.heap.size w w' := by
  have LS := Ls.made w s
  have BA : Below w.heap.size w (((((w.alloc (.cells #[.string s] 9)).alloc (.cells #[.int .i64 0] 3)).alloc (.cells #[.int .i64 0] 3)).alloc (.cells #[.bool false] 4)).alloc (.cells #[.int .i64 0] 22)) := bthen (bthen (bthen (bthen (b1 w _) (by simp) (b1 _ _)) (by simp; omega) (b1 _ _)) (by simp; omega) (b1 _ _)) (by simp; omega) (b1 _ _)
  have hS1 : (((((w.alloc (.cells #[.string s] 9)).alloc (.cells #[.int .i64 0] 3)).alloc (.cells #[.int .i64 0] 3)).alloc (.cells #[.bool false] 4)).alloc (.cells #[.int .i64 0] 22)).heap.size = w.heap.size + 5 := by simp
  obtain ⟨W1, hW1⟩ : ∃ W1, ((((w.alloc (.cells #[.string s] 9)).alloc (.cells #[.int .i64 0] 3)).alloc (.cells #[.int .i64 0] 3)).alloc (.cells #[.bool false] 4)).alloc (.cells #[.int .i64 0] 22) = W1 := ⟨_, rfl⟩
  rw [hW1] at LS BA hS1
  have HS1 : Hid (W1.heap.size = w.heap.size + 5) := hS1
  clear hS1
  have c0 := LS.bs.cell
  obtain ⟨R, hR⟩ : ∃ R, stR s ((p : Int) + 1) = R := ⟨_, rfl⟩
  rw [hR]
  have hsz : ¬ (p : Int) + 1 < 0 := by omega
  have hs2 : ¬ (s.size : Int) < (p : Int) + 1 := by omega
  have hs3 : (0 : Int) < (p : Int) + 1 := by omega
  have hwl := wd_le s p hp
  have hT : 0 ≤ (p : Int) + 1 ∧ (p : Int) + 1 ≤ s.size ∧ nxB s ((p : Int) + 1) = p + wd s p := ⟨by omega, by omega, by unfold nxB; rw [if_pos (by omega), show ((p : Int) + 1 - 1).toNat = p by omega]⟩
  have w1 : IntKind.i64.wrap ((p : Int) + 1 - 1) = (p : Int) := by rw [IntKind.wrap_i64]; omega
  have w2 : IntKind.i64.wrap ((p : Int) + 1 + (wd s p : Int)) = (p : Int) + (wd s p : Int) + 1 := by rw [IntKind.wrap_i64]; omega
  have CD := fun W => decode_yes s p W hp (by omega)
  refine callsIn_of_wp_marks Try.func19 rfl trivial ?_ rfl
  simp only [Try.ntmps19, List.size_toArray, List.length_cons, List.length_nil, Nat.reduceAdd, Nat.reduceSub, Array.replicate_succ, Array.replicate_zero, List.push_toArray, List.append_toArray, List.nil_append, List.cons_append]
  refine wpIn_wide.2 ?_
  go_wp2_with (first
    | (go_at_call 37; refine (CD _).mono ?_; rintro e wA ⟨rfl, hbA⟩; have LS := LS.kept (No := fun _ => True) (Keep.of (hbA.trans ((b1 _ (.cells #[.int .i64 p, .int .i64 (wd s p), .int .i64 (rn s p)] 42)).mono hbA.size))) ⟨trivial, trivial, trivial, trivial, trivial⟩; have c0 := LS.bs.cell)
    | (go_at_call 26; refine (between_any _ _ _ _).mono ?_; rintro e w1 ⟨rfl, hw1⟩; subst w1))
  have LN := LS
  have BN : Below w.heap.size w (wA.alloc (.cells #[.int .i64 p, .int .i64 (wd s p), .int .i64 (rn s p)] 42)) := bthen (bthen BA BA.size hbA) (by have := HS1.out; have := hbA.size; omega) (b1 _ _)
  have hz : (wA.alloc (.cells #[.int .i64 p, .int .i64 (wd s p), .int .i64 (rn s p)] 42)).heap.size = wA.heap.size + 1 := by simp
  have HWN : Hid (w.heap.size + 5 ≤ (wA.alloc (.cells #[.int .i64 p, .int .i64 (wd s p), .int .i64 (rn s p)] 42)).heap.size) := by show _ ≤ _; have := HS1.out; have := hbA.size; omega
  clear LS BA HS1 c0 hW1
  generalize wA.alloc (.cells #[.int .i64 p, .int .i64 (wd s p), .int .i64 (rn s p)] 42) = WN at *
  rw [← hz]
  clear hz CD hbA w1 w2 hs2 hs3
  have BL := bel3 WN s ((p : Int) + (wd s p : Int) + 1) s.size
  have IL : It (((WN.alloc (.cells #[.string s] 9)).alloc (.cells #[.int .i64 ((p : Int) + (wd s p : Int) + 1)] 3)).alloc (.cells #[.int .i64 s.size] 3)) (fun g => g < WN.heap.size + 3) WN.heap.size s (((p + wd s p : Nat) : Int) + 1) s.size := by
    rw [show (((p + wd s p : Nat) : Int) + 1) = ((p : Int) + (wd s p : Int) + 1) by omega]
    exact It.made WN s ((p : Int) + (wd s p : Int) + 1) s.size _ (fun g q1 q2 => q2)
  have hSL : (((WN.alloc (.cells #[.string s] 9)).alloc (.cells #[.int .i64 ((p : Int) + (wd s p : Int) + 1)] 3)).alloc (.cells #[.int .i64 s.size] 3)).heap.size = WN.heap.size + 3 := by simp
  generalize ((WN.alloc (.cells #[.string s] 9)).alloc (.cells #[.int .i64 ((p : Int) + (wd s p : Int) + 1)] 3)).alloc (.cells #[.int .i64 s.size] 3) = WL at *
  rw [← hSL] at IL
  have LBL : Ls WL w.heap.size s (0, 0, false, 0) := LN.kept (No := fun _ => True) (Keep.of BL) ⟨trivial, trivial, trivial, trivial, trivial⟩
  have BW : Below w.heap.size w WL := bthen BN BN.size BL
  have HSL : Hid (w.heap.size + 8 ≤ WL.heap.size) := by show _ ≤ _; have := HWN.out; omega
  clear BL hSL BN LN HWN
  refine (wpIn_wide (n := 6)).1 ?_
  refine wpIn_rangeFunc_ownH (n := 6) rfl (by omega) (gf := 41) (lb := #[.pointer (some ⟨WN.heap.size + 1, 0, none⟩), .pointer (some ⟨WN.heap.size + 2, 0, none⟩), .pointer (some ⟨WN.heap.size, 0, none⟩)]) rfl trivial (enters_of Try.func41 (by kernel_rfl) rfl)
    (iter_stops (fun g => g < WL.heap.size) WN.heap.size s (p + wd s p) s.size hs (by omega) WL (fun g q => q) IL) keepK_t (keepK_b (fun g q => q)) (Below.refl _ _) (fun _ => rfl)
    (fun pre W => pre = [] ∧ Ls W w.heap.size s (0, 0, false, 0) ∧ Keep (fun g => g < WL.heap.size) WL W)
    (fun cd pre W => cd = .ret ∧ ∃ x, pre = [x] ∧ Ls W w.heap.size s (resx s x) ∧ Keep (fun g => g < w.heap.size) WL W)
    (ownFrom_of fun st W W' hst hk => ⟨hst.1, hst.2.1.kept hk (by have := HSL.out; exact ⟨by omega, by omega, by omega, by omega, by omega⟩), hst.2.2.trans hk⟩)
    (fun cd => ownFrom_of fun st W W' hst hk => by
      obtain ⟨h1, x, h2, h3, h4⟩ := hst
      exact ⟨h1, x, h2, h3.kept hk (by have := HSL.out; exact ⟨by omega, by omega, by omega, by omega, by omega⟩), h4.trans (hk.sub (fun g q => by have := HSL.out; omega))⟩)
    ⟨rfl, LBL, Keep.refl _ _⟩
    (fun x a' W => a' = { tmps := #[.string s, .int .i64 ((p : Int) + 1), .pointer (some ⟨w.heap.size, 0, none⟩), undef, .pointer (some ⟨w.heap.size + 1, 0, none⟩), .pointer (some ⟨w.heap.size + 1 + 1, 0, none⟩), .pointer (some ⟨w.heap.size + 1 + 1 + 1, 0, none⟩), .pointer (some ⟨w.heap.size + 1 + 1 + 1 + 1, 0, none⟩), .int .i64 ((p : Int) + (wd s p : Int) + 1), .pointer (some ⟨wA.heap.size, 0, none⟩), .int .i64 0, .int .i64 ((x.1 : Int) + 1), .int .i32 (rn s x.1), .int .i64 ((p : Int) + 1), .bool false, .bool false, .int .i64 ((p : Int) + 1), .string s, .int .i64 s.size, .bool false, .bool false, .int .i64 ((p : Int) + 1), .bool true, .tuple #[.agg #[.int .i64 p, .int .i64 (wd s p), .int .i64 (rn s p)], .int .i64 0], .string s, .int .i64 ((p : Int) + 1), .int .i64 p, .tuple #[.agg #[.int .i64 p, .int .i64 (wd s p), .int .i64 (rn s p)], .int .i64 0], .agg #[.int .i64 p, .int .i64 (wd s p), .int .i64 (rn s p)], .int .i64 0, .int .i64 ((p : Int) + 1), .pointer (some ⟨wA.heap.size, 1, none⟩), .int .i64 (wd s p), .int .i64 ((p : Int) + (wd s p : Int) + 1), .string s, .int .i64 ((p : Int) + (wd s p : Int) + 1), .string s, .int .i64 s.size, (.func (.func 41) #[] #[.pointer (some ⟨WN.heap.size + 1, 0, none⟩), .pointer (some ⟨WN.heap.size + 2, 0, none⟩), .pointer (some ⟨WN.heap.size, 0, none⟩)]), .int .i64 ((x.1 : Int) + 1), .int .i32 (rn s x.1), undef, undef, undef, undef, undef, undef, undef], defers := [] })
    (fun x a' => fun _ A' B' row hst hg hr => hst) ?assign ?body ?done ?stop
  case assign =>
    rintro l pre x W K hI hK
    unfold encP
    gi_wp2
    exact hK _ _ ((KeepsOthers.refl W).from _) ⟨Keep.refl _ _, KeepsWalks.refl _⟩ hI rfl
  case body =>
    rintro l pre x a' W hl _ ⟨hpre0, hL, hkw⟩ rfl hlt
    have hpre : Hid (pre = []) := hpre0
    clear hpre0
    have CI := fun W => CallsIn.inRound l (callsIn_wide (n := 3).2 (invalid_any s x.1 W hs x.2))
    have c0 := hL.bs.cell
    have hrl := rn_le s x.1
    have hxl := x.2
    have HO : Hid (∀ w1, Below W.heap.size W w1 → KeepsOthers W w1) := fun w1 hb1 => KeepsOthers.of_grownBy (grown_of_below hb1) (fun j o e => by cases e)
    clear hR hT hsz hl hlt
    cases hbd : bdB s x.1 with
    | false =>
      have er : resx s x = ((x.1 : Int) + 1, (rn s x.1 : Int), true, 0) := by unfold resx; rw [hbd]; rfl
      rw [hbd] at CI
      gi_wp2_with (refine ⟨trivial, ?_⟩; gi_at_call 27; refine (CI _).mono ?_; rintro e w2 ⟨rfl, hb1⟩; have L1 := hL.kept (No := fun _ => True) (Keep.of hb1) ⟨trivial, trivial, trivial, trivial, trivial⟩; have c1 := L1.bx.cell; have c2 := L1.bY.cell; have c3 := L1.bz.cell; have c4 := L1.be.cell; have f1 := L1.bx.frozen; have f2 := L1.bY.frozen; have f3 := L1.bz.frozen; have f4 := L1.be.frozen)
      have LZ := L1.set ((x.1 : Int) + 1, (rn s x.1 : Int), true, 0)
      refine ⟨((HO.out _ hb1).trans (others_set4 w2 w.heap.size ((x.1 : Int) + 1, (rn s x.1 : Int), true, 0))).from _, rfl, x, by rw [hpre.out]; rfl, ?_, ?_⟩
      · rw [er]; exact LZ
      · exact keep_set4 (No := fun g => g < w.heap.size) (S := w.heap.size) ((hkw.sub (fun g q => by have := HSL.out; have q' : g < w.heap.size := q; show g < WL.heap.size; omega)).trans (Keep.of hb1)) ⟨by omega, by omega, by omega, by omega⟩ ((x.1 : Int) + 1, (rn s x.1 : Int), true, 0)
    | true =>
      have er : resx s x = (0, 0, false, 3) := by unfold resx; rw [hbd]; rfl
      rw [hbd] at CI
      gi_wp2_with (refine ⟨trivial, ?_⟩; gi_at_call 27; refine (CI _).mono ?_; rintro e w2 ⟨rfl, hb1⟩; have L1 := hL.kept (No := fun _ => True) (Keep.of hb1) ⟨trivial, trivial, trivial, trivial, trivial⟩; have c1 := L1.bx.cell; have c2 := L1.bY.cell; have c3 := L1.bz.cell; have c4 := L1.be.cell; have f1 := L1.bx.frozen; have f2 := L1.bY.frozen; have f3 := L1.bz.frozen; have f4 := L1.be.frozen)
      have LZ := L1.set (0, 0, false, 3)
      refine ⟨((HO.out _ hb1).trans (others_set4 w2 w.heap.size (0, 0, false, 3))).from _, rfl, x, by rw [hpre.out]; rfl, ?_, ?_⟩
      · rw [er]; exact LZ
      · exact keep_set4 (No := fun g => g < w.heap.size) (S := w.heap.size) ((hkw.sub (fun g q => by have := HSL.out; have q' : g < w.heap.size := q; show g < WL.heap.size; omega)).trans (Keep.of hb1)) ⟨by omega, by omega, by omega, by omega⟩ (0, 0, false, 3)
  case done =>
    rintro D xs W hD hxs ⟨hpre, hL, hkw⟩ hK
    have eR : R = (0, 0, false, 0) := by
      rw [← hR]
      subst hpre
      exact stR_end hT (bw_none hxs.symm)
    subst eR
    have c1 := hL.bx.cell
    have c2 : W.cell? ⟨w.heap.size + 1 + 1, 0, none⟩ = _ := hL.bY.cell
    have c3 : W.cell? ⟨w.heap.size + 1 + 1 + 1, 0, none⟩ = _ := hL.bz.cell
    have c4 : W.cell? ⟨w.heap.size + 1 + 1 + 1 + 1, 0, none⟩ = _ := hL.be.cell
    have f1 := hL.bx.frozen
    have f2 : W.frozen? ⟨w.heap.size + 1 + 1, 0, none⟩ = _ := hL.bY.frozen
    have f3 : W.frozen? ⟨w.heap.size + 1 + 1 + 1, 0, none⟩ = _ := hL.bz.frozen
    have f4 : W.frozen? ⟨w.heap.size + 1 + 1 + 1 + 1, 0, none⟩ = _ := hL.be.frozen
    have HZ : Hid (_ ∧ _ ∧ _) := ⟨hL.set (0, 0, false, 0), keep_set4 (S := w.heap.size) (hkw.sub (No' := fun g => g < w.heap.size) (fun g q => by have := HSL.out; show g < WL.heap.size; omega)) ⟨by omega, by omega, by omega, by omega⟩ (0, 0, false, 0), others_set4 W w.heap.size (0, 0, false, 0)⟩
    clear hR
    go_wp2
    obtain ⟨LZ, kZ, kO⟩ := HZ.out
    have hK2 := kO.same D _ hK rfl
    refine ⟨by simp, .inl ⟨_, _, rfl, run_takeDeferred hK2, ?_⟩⟩
    have kD : Keep (fun g => g < WL.heap.size) _ (World.putObj _ D (.deferred none)) := (keepK_b (w := WL) (fun g q => q) _ D _ _ hD hK2 rfl rfl).1
    have LD := LZ.kept kD (by have := HSL.out; exact ⟨by omega, by omega, by omega, by omega, by omega⟩)
    have o0 := LD.bx.cell
    have o1 : World.cell? _ ⟨w.heap.size + 1 + 1, 0, none⟩ = _ := LD.bY.cell
    have o2 : World.cell? _ ⟨w.heap.size + 1 + 1 + 1, 0, none⟩ = _ := LD.bz.cell
    have o3 : World.cell? _ ⟨w.heap.size + 1 + 1 + 1 + 1, 0, none⟩ = _ := LD.be.cell
    unfold set4 at o0 o1 o2 o3
    exact ⟨stV (0, 0, false, 0), by simp [results, Try.results19, go_sem, o0, o1, o2, o3, stV], rfl, BW.trans ((kZ.trans (kD.sub (fun g q => by have := HSL.out; have q' : g < w.heap.size := q; show g < WL.heap.size; omega))).below (by have := HSL.out; omega) (fun g q => q))⟩
  case stop =>
    rintro D cd pre W hD hpre ⟨rfl, x, rfl, hL, hkw⟩ hK
    have eR : R = resx s x := by
      rw [← hR]
      exact stR_some hT x (bw_first hpre)
    subst eR
    gi_wp2
    refine ⟨by simp, .inl ⟨_, _, rfl, run_takeDeferred hK, ?_⟩⟩
    have kD : Keep (fun g => g < WL.heap.size) W (W.putObj D (.deferred none)) := (keepK_b (w := WL) (fun g q => q) _ D _ _ hD hK rfl rfl).1
    have LD := hL.kept kD (by have := HSL.out; exact ⟨by omega, by omega, by omega, by omega, by omega⟩)
    have o0 := LD.bx.cell
    have o1 : World.cell? _ ⟨w.heap.size + 1 + 1, 0, none⟩ = _ := LD.bY.cell
    have o2 : World.cell? _ ⟨w.heap.size + 1 + 1 + 1, 0, none⟩ = _ := LD.bz.cell
    have o3 : World.cell? _ ⟨w.heap.size + 1 + 1 + 1 + 1, 0, none⟩ = _ := LD.be.cell
    exact ⟨stV (resx s x), by simp [results, Try.results19, go_sem, o0, o1, o2, o3, stV], rfl, BW.trans ((hkw.trans (kD.sub (fun g q => by have := HSL.out; have q' : g < w.heap.size := q; show g < WL.heap.size; omega))).below (by have := HSL.out; omega) (fun g q => q))⟩
theorem step_any (s : ByteArray) (t : Int) (w : World) (hs : s.size ≤ 140737488351232) :
    Calls Try.prog 19 #[.string s, .int .i64 t] w fun e w' => e = .returned (stV (stR s t)) ∧ Below w.heap.size w w' := by
  by_cases h : t < 0 ∨ (s.size : Int) < t
  · have LS := Ls.made w s
    have BA : Below w.heap.size w (((((w.alloc (.cells #[.string s] 9)).alloc (.cells #[.int .i64 0] 3)).alloc (.cells #[.int .i64 0] 3)).alloc (.cells #[.bool false] 4)).alloc (.cells #[.int .i64 0] 22)) := bthen (bthen (bthen (bthen (b1 w _) (by simp) (b1 _ _)) (by simp; omega) (b1 _ _)) (by simp; omega) (b1 _ _)) (by simp; omega) (b1 _ _)
    obtain ⟨W1, hW1⟩ : ∃ W1, ((((w.alloc (.cells #[.string s] 9)).alloc (.cells #[.int .i64 0] 3)).alloc (.cells #[.int .i64 0] 3)).alloc (.cells #[.bool false] 4)).alloc (.cells #[.int .i64 0] 22) = W1 := ⟨_, rfl⟩
    rw [hW1] at LS BA
    have e : stR s t = (0, 0, false, 1) := by unfold stR; rw [if_pos h]
    rw [e]
    clear e
    have c0 := LS.bs.cell
    have c1 := LS.bx.cell
    have c2 := LS.bY.cell
    have c3 := LS.bz.cell
    have c4 := LS.be.cell
    have f1 := LS.bx.frozen
    have f2 := LS.bY.frozen
    have f3 := LS.bz.frozen
    have f4 := LS.be.frozen
    have LD := LS.set (0, 0, false, 1)
    have BD : Below w.heap.size w (set4 W1 w.heap.size (0, 0, false, 1)) := (keep_set4 (No := fun g => g < w.heap.size) (S := w.heap.size) (Keep.refl _ W1) ⟨by omega, by omega, by omega, by omega⟩ (0, 0, false, 1)).below BA.size (fun g q => q) |> BA.trans
    have o0 := LD.bx.cell
    have o1 : World.cell? _ ⟨w.heap.size + 1 + 1, 0, none⟩ = _ := LD.bY.cell
    have o2 : World.cell? _ ⟨w.heap.size + 1 + 1 + 1, 0, none⟩ = _ := LD.bz.cell
    have o3 : World.cell? _ ⟨w.heap.size + 1 + 1 + 1 + 1, 0, none⟩ = _ := LD.be.cell
    unfold set4 at o0 o1 o2 o3
    have HZ : Hid (_ ∧ _ ∧ _ ∧ _ ∧ _) := ⟨o0, o1, o2, o3, BD⟩
    clear o0 o1 o2 o3 BD LD LS BA
    refine callsIn_wide (n := 6).1 (callsIn_of_wp_marks Try.func19 rfl trivial ?_ rfl)
    simp only [Try.ntmps19, List.size_toArray, List.length_cons, List.length_nil, Nat.reduceAdd, Nat.reduceSub, Array.replicate_succ, Array.replicate_zero, List.push_toArray, List.append_toArray, List.nil_append, List.cons_append]
    refine wpIn_wide.2 ?_
    by_cases h1 : t < 0
    · clear h
      go_wp2
      obtain ⟨o0, o1, o2, o3, BD⟩ := HZ.out
      exact ⟨stV (0, 0, false, 1), by simp [results, Try.results19, go_sem, o0, o1, o2, o3, stV], rfl, BD⟩
    · have h2 : (s.size : Int) < t := by omega
      clear h
      go_wp2
      obtain ⟨o0, o1, o2, o3, BD⟩ := HZ.out
      exact ⟨stV (0, 0, false, 1), by simp [results, Try.results19, go_sem, o0, o1, o2, o3, stV], rfl, BD⟩
  · rcases Int.lt_or_le 0 t with a | a
    · have q := step_p s (t - 1).toNat (by omega) w hs
      rw [show (((t - 1).toNat : Nat) : Int) + 1 = t by omega] at q
      exact callsIn_wide.1 q
    · obtain rfl : t = 0 := by omega
      exact callsIn_wide.1 (step_0 s w hs)
end Go.Proofs.Ytbgbhogcjaodkaa

/- Code points and their encodings have one order; the walk of the law RunesOrder. -/
namespace Go.Proofs.Ytbgbhogcjaodkaa
open Go.RowKit

/-- The bytes of an encoding, as numbers. -/
def encL (r : Nat) : List Nat :=
  if r < 128 then [r]
  else if r < 2048 then [192 + r / 64, 128 + r % 64]
  else if r < 65536 then [224 + r / 4096, 128 + r / 64 % 64, 128 + r % 64]
  else [240 + r / 262144, 128 + r / 4096 % 64, 128 + r / 64 % 64, 128 + r % 64]
def lessL : List Nat → List Nat → Bool
  | _, [] => false
  | [], _ :: _ => true
  | a :: x, b :: y => decide (a < b) || (decide (a = b) && lessL x y)

theorem encB_iff (r : Int) : encB r = true ↔ 0 ≤ r ∧ r ≤ 1114111 ∧ (r < 55296 ∨ 57343 < r) := by simp [encB]
theorem encB_valid (r : Int) (h : encB r = true) : Utf8.valid r = true := by
  rw [encB_iff] at h
  simp [Utf8.valid]; omega

theorem encode_list (r : Int) (h : encB r = true) : (Utf8.encode r).toList = (encL r.toNat).map UInt8.ofNat := by
  rw [ByteArray.toList_eq]
  unfold Utf8.encode encL
  simp only [encB_valid r h, if_true]
  split
  · rfl
  · split
    · rfl
    · split <;> rfl

theorem encL_lt (r : Nat) (h : r ≤ 1114111) : ∀ x ∈ encL r, x < 256 := by
  unfold encL
  repeat' split
  all_goals (intro x hx; simp at hx; omega)

theorem less_map (x : List Nat) : ∀ y : List Nat, (∀ a ∈ x, a < 256) → (∀ a ∈ y, a < 256) → Op.bytesLess (x.map UInt8.ofNat) (y.map UInt8.ofNat) = lessL x y := by
  induction x with
  | nil => intro y _ _; cases y <;> rfl
  | cons a x ih =>
    intro y hx hy
    cases y with
    | nil => rfl
    | cons b y =>
      have ha := hx a (by simp)
      have hb := hy b (by simp)
      have h1 : (decide (UInt8.ofNat a < UInt8.ofNat b)) = decide (a < b) := by
        rw [decide_eq_decide, UInt8.lt_iff_toNat_lt]
        simp; omega
      have h2 : (UInt8.ofNat a == UInt8.ofNat b) = decide (a = b) := by
        rw [Bool.eq_iff_iff]
        simp only [beq_iff_eq, decide_eq_true_eq]
        constructor
        · intro h
          have := congrArg UInt8.toNat h
          simp at this
          omega
        · intro h; rw [h]
      simp only [List.map_cons, Op.bytesLess, lessL]
      rw [h1, h2, ih y (fun c hc => hx c (by simp [hc])) (fun c hc => hy c (by simp [hc]))]

theorem map_inj (x : List Nat) : ∀ y : List Nat, (∀ a ∈ x, a < 256) → (∀ a ∈ y, a < 256) → x.map UInt8.ofNat = y.map UInt8.ofNat → x = y := by
  induction x with
  | nil => intro y _ _ h; cases y <;> simp_all
  | cons a x ih =>
    intro y hx hy h
    cases y with
    | nil => simp at h
    | cons b y =>
      simp only [List.map_cons, List.cons.injEq] at h
      have ha := hx a (by simp)
      have hb := hy b (by simp)
      have := congrArg UInt8.toNat h.1
      simp at this
      rw [ih y (fun c hc => hx c (by simp [hc])) (fun c hc => hy c (by simp [hc])) h.2]
      congr 1
      omega

set_option maxHeartbeats 2000000 in
theorem encL_less (a b : Nat) (ha : a ≤ 1114111) (hb : b ≤ 1114111) : lessL (encL a) (encL b) = decide (a < b) := by
  unfold encL
  repeat' split
  all_goals (rw [Bool.eq_iff_iff]; first | (simp [lessL]; done) | (simp [lessL]; omega))
set_option maxHeartbeats 2000000 in
theorem encL_inj (a b : Nat) (ha : a ≤ 1114111) (hb : b ≤ 1114111) (h : encL a = encL b) : a = b := by
  unfold encL at h
  repeat' split at h
  all_goals first | (simp at h; done) | (simp at h; omega)

theorem order1 (a b : Int) (ha : encB a = true) (hb : encB b = true) : Op.bytesLess (encS a).toList (encS b).toList = decide (a < b) := by
  have h1 := (encB_iff a).1 ha
  have h2 := (encB_iff b).1 hb
  simp only [encS, ha, hb, if_true]
  rw [encode_list a ha, encode_list b hb, less_map _ _ (encL_lt _ (by omega)) (encL_lt _ (by omega)), encL_less _ _ (by omega) (by omega), decide_eq_decide]
  omega
theorem order2 (a b : Int) (ha : encB a = true) (hb : encB b = true) : ((encS a).toList == (encS b).toList) = decide (a = b) := by
  have h1 := (encB_iff a).1 ha
  have h2 := (encB_iff b).1 hb
  simp only [encS, ha, hb, if_true]
  rw [Bool.eq_iff_iff, beq_iff_eq, decide_eq_true_eq]
  constructor
  · intro h
    rw [encode_list a ha, encode_list b hb] at h
    have := encL_inj _ _ (by omega) (by omega) (map_inj _ _ (encL_lt _ (by omega)) (encL_lt _ (by omega)) h)
    omega
  · intro h; rw [h]

theorem beq_dec (a b : Int) : ((a == b) == decide (a = b)) = true := by
  by_cases h : a = b <;> simp [h]

end Go.Proofs.Ytbgbhogcjaodkaa
