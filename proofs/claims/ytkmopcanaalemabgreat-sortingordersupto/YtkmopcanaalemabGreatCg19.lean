/- A callee's answer handed on; the walk of afterRising. -/
import Derived.Test.YtkmopcanaalemabGreatCg18
import Derived.WalkSmall
namespace Go.Proofs.YtkmopcanaalemabGreat
open Go.RowKit

abbrev z8 : Obj := .cells #[.int .i64 0, .int .i64 0, .string ⟨#[]⟩, .int .i64 0, .int .i64 0, .string ⟨#[]⟩, .bool false, .int .i64 0] 78
/-- The answer's block among others' blocks; behind a callee the answer is stored into it. -/
theorem So.tell {No : Nat → Prop} {w : World} {B : Nat} {wv : Value} {T A b a S hb c : Nat} {d : SD} (h : So No w B wv T A b a S hb c d) :
    ∃ N2 : Nat → Prop, So N2 (w.alloc z8) B wv T A b a S hb c d ∧ ∀ w4 wv' A' b' a' c' d' (tl : Tol), Keep N2 (w.alloc z8) w4 → So N2 w4 B wv' T A' b' a' S hb c' d' →
      R8 w4 w.heap.size (nil, nil, false, 0) ∧ R8 (set8 w4 w.heap.size tl) w.heap.size tl ∧ So No (set8 w4 w.heap.size tl) B wv' T A' b' a' S hb c' d' ∧ Keep No w (set8 w4 w.heap.size tl) := by
  have B1 := b1 w z8
  have R0 := R8.made w
  have z0 : (w.alloc z8).heap.size = w.heap.size + 1 := by simp
  have hNo : ∀ g, No g → g < w.heap.size := fun g q => by
    obtain ⟨vb, hp⟩ := h.tt.hp
    exact hp.nos _ (.inl (.inl q))
  refine ⟨_, h.news B1, fun w4 wv' A' b' a' c' d' tl k4 s4 => ?_⟩
  have hn : (fun g => No g ∨ (w.heap.size ≤ g ∧ g < (w.alloc z8).heap.size)) w.heap.size := .inr ⟨Nat.le_refl _, by omega⟩
  have r4 := R0.kept k4 hn
  refine ⟨r4, r4.set _, s4.out (fun g q => .inl q) ((Keep.refl _ w4).set8 (fun q => q hn) _), ?_⟩
  exact ((Keep.of B1).trans (k4.sub (fun g q => .inl q))).set8 (fun q => by have := hNo _ q; omega) _
theorem R8.eight {w : World} {N : Nat} {t : Tol} (h : R8 w N t) : w.cell? ⟨N, 0, none⟩ = some (.int .i64 t.1.1) ∧ w.cell? ⟨N, 1, none⟩ = some (.int .i64 t.1.2.1) ∧ w.cell? ⟨N, 2, none⟩ = some (.string t.1.2.2) ∧ w.cell? ⟨N, 3, none⟩ = some (.int .i64 t.2.1.1) ∧ w.cell? ⟨N, 4, none⟩ = some (.int .i64 t.2.1.2.1) ∧ w.cell? ⟨N, 5, none⟩ = some (.string t.2.1.2.2) ∧ w.cell? ⟨N, 6, none⟩ = some (.bool t.2.2.1) ∧ w.cell? ⟨N, 7, none⟩ = some (.int .i64 t.2.2.2) :=
  ⟨h.cell (j := 0) rfl, h.cell (j := 1) rfl, h.cell (j := 2) rfl, h.cell (j := 3) rfl, h.cell (j := 4) rfl, h.cell (j := 5) rfl, h.cell (j := 6) rfl, h.cell (j := 7) rfl⟩
set_option maxRecDepth 20000 in
set_option maxHeartbeats 4000000 in
theorem rising_no {No : Nat → Prop} {w : World} {B : Nat} {wv : Value} {T A b a S hb c : Nat} {d : SD} (h : So No w B wv T A b a S hb c d) (hc : c ≤ 900000) (h1 : -4611686018427387904 ≤ d.1.j) (h2 : d.1.j ≤ 4611686018427387904) :
    Calls Tryz.prog 61 #[.pointer (some ⟨B, 0, none⟩), .bool false] w fun e w' => e = .returned (tolV (fallR d).2) ∧ So No w' B wv T A b a S hb (c + 1) (fallR d).1 ∧ Keep No w w' := by
  obtain ⟨N2, s0, HF0⟩ := h.tell
  have HF : Hid _ := HF0
  have CF := fall_any s0 hc h1 h2
  obtain ⟨tl, htl⟩ : ∃ tl, (fallR d).2 = tl := ⟨_, rfl⟩
  rw [htl] at CF ⊢
  obtain ⟨W0, hW0⟩ : ∃ W0, w.alloc z8 = W0 := ⟨_, rfl⟩
  rw [hW0] at CF HF
  unfold z8 at hW0
  unfold tolV at CF
  clear HF0 s0 h htl
  go_enter Tryz.func61, Tryz.ntmps61
  go_wp2_with fail
  refine CF.mono ?_
  rintro e w4 ⟨rfl, s4, k4⟩
  obtain ⟨r4, r5, s5, k5⟩ := HF.out w4 wv A b a (c + 1) (fallR d).1 tl k4 s4
  have HZ : Hid (_ ∧ _ ∧ _) := ⟨r5, s5, k5⟩
  obtain ⟨W5, hW5⟩ : ∃ W5, set8 w4 w.heap.size tl = W5 := ⟨_, rfl⟩
  rw [hW5] at HZ
  unfold set8 at hW5
  obtain ⟨n0, n1, n2, n3, n4, n5, n6, n7⟩ := r4.eight
  simp only [nil] at n0 n1 n2 n3 n4 n5 n6 n7
  have nf := fun j => r4.free j
  clear r4 r5 s5 k5 s4 k4 HF CF
  go_wp2
  obtain ⟨q1, q2, q3⟩ := HZ.out
  obtain ⟨r0, r1, r2, r3, r4, r5, r6, r7⟩ := q1.eight
  exact bodyPost_ret (v := tolV tl) (by simp [results, Tryz.results61, go_sem, r0, r1, r2, r3, r4, r5, r6, r7, tolV]) rfl ⟨rfl, q2, q3⟩
/-- What a step of the sorter comes to. -/
def GP (No : Nat → Prop) (w : World) (B T S hb c : Nat) (r : SD × Tol) (e : Ending) (w' : World) : Prop :=
  e = .returned (tolV r.2) ∧ (∃ wv' A' b' a', So No w' B wv' T A' b' a' S hb c r.1) ∧ Keep No w w'
theorem So.more {No : Nat → Prop} {w : World} {B : Nat} {wv : Value} {T A b a S hb c c' : Nat} {d : SD} (h : So No w B wv T A b a S hb c d) (hc : c ≤ c') : So No w B wv T A b a S hb c' d := ⟨h.blk, h.row, h.tt.more hc, h.nB, h.nW⟩
theorem bdrewN (w : World) (n : Nat) : Below w.heap.size w (w.drewN n) := ⟨rfl, rfl, rfl, Nat.le_refl _, fun _ _ => rfl⟩
set_option maxRecDepth 20000 in
set_option maxHeartbeats 4000000 in
theorem rising_yes {No : Nat → Prop} {w : World} {B : Nat} {wv : Value} {T A b a S hb c : Nat} {d : SD} (h : So No w B wv T A b a S hb c d) (hc : c ≤ 900000) (h1 : -4611686018427387904 ≤ d.1.i) (h2 : d.1.i ≤ 4611686018427387904) (h3 : -4611686018427387904 ≤ d.1.up) (h4 : d.1.up ≤ 4611686018427387904) :
    Calls Tryz.prog 61 #[.pointer (some ⟨B, 0, none⟩), .bool true] w (GP No w B T S hb (c + 1) (risingR d true)) := by
  obtain ⟨N2, s0, HF0⟩ := h.tell
  have HF : Hid _ := HF0
  have a6 : (w.alloc z8).cell? ⟨B, 6, none⟩ = some (.int .i64 d.1.i) := s0.cell (j := 6) rfl
  have a2 : (w.alloc z8).cell? ⟨B, 2, none⟩ = some (.int .i64 d.1.up) := s0.cell (j := 2) rfl
  have wu : IntKind.i64.wrap (d.1.up - 1) = d.1.up - 1 := by rw [IntKind.wrap_i64]; omega
  have CR := fun n => rise_any (s0.below (bdrewN _ n)) hc h1 h2
  have CE := fun n => end_any (s0.below (bdrewN _ n)) 15
  obtain ⟨W0, hW0⟩ : ∃ W0, w.alloc z8 = W0 := ⟨_, rfl⟩
  rw [hW0] at CR CE HF a6 a2
  unfold z8 at hW0
  have eR : risingR d true = if d.1.i = d.1.up - 1 then (endD d 15, endT 15) else riseR d := rfl
  rw [eR]
  clear HF0 s0 h eR
  by_cases hi : d.1.i = d.1.up - 1
  · rw [if_pos hi]
    have hi' : (d.1.i == d.1.up - 1) = true := by simpa using hi
    unfold GP
    obtain ⟨tl, htl⟩ : ∃ tl, endT 15 = tl := ⟨_, rfl⟩
    rw [htl] at CE ⊢
    unfold tolV at CE
    clear hi CR htl
    go_enter Tryz.func61, Tryz.ntmps61
    go_wp2
    go_quiet (fail)
    go_wp2_with fail
    refine (CE _).mono ?_
    rintro e w4 ⟨rfl, s4, k4⟩
    obtain ⟨r4, r5, s5, k5⟩ := HF.out w4 _ A b a c (endD d 15) tl ((Keep.of (bdrewN _ _)).trans k4) s4
    have HZ : Hid (_ ∧ _ ∧ _) := ⟨r5, s5, k5⟩
    obtain ⟨W5, hW5⟩ : ∃ W5, set8 w4 w.heap.size tl = W5 := ⟨_, rfl⟩
    rw [hW5] at HZ
    unfold set8 at hW5
    obtain ⟨n0, n1, n2, n3, n4, n5, n6, n7⟩ := r4.eight
    simp only [nil] at n0 n1 n2 n3 n4 n5 n6 n7
    have nf := fun j => r4.free j
    clear r4 r5 s5 k5 s4 k4 HF CE
    go_wp2
    obtain ⟨q1, q2, q3⟩ := HZ.out
    obtain ⟨r0, r1, r2, r3, r4, r5, r6, r7⟩ := q1.eight
    exact bodyPost_ret (v := tolV tl) (by simp [results, Tryz.results61, go_sem, r0, r1, r2, r3, r4, r5, r6, r7, tolV]) rfl ⟨rfl, ⟨_, _, _, _, q2.more (by omega)⟩, q3⟩
  · rw [if_neg hi]
    have hi' : (d.1.i == d.1.up - 1) = false := by simpa using hi
    unfold GP
    obtain ⟨tl, htl⟩ : ∃ tl, (riseR d).2 = tl := ⟨_, rfl⟩
    rw [htl] at CR ⊢
    unfold tolV at CR
    clear hi CE htl
    go_enter Tryz.func61, Tryz.ntmps61
    go_wp2
    go_quiet (fail)
    go_wp2_with fail
    refine (CR _).mono ?_
    rintro e w4 ⟨rfl, s4, k4⟩
    obtain ⟨r4, r5, s5, k5⟩ := HF.out w4 _ A b a (c + 1) (riseR d).1 tl ((Keep.of (bdrewN _ _)).trans k4) s4
    have HZ : Hid (_ ∧ _ ∧ _) := ⟨r5, s5, k5⟩
    obtain ⟨W5, hW5⟩ : ∃ W5, set8 w4 w.heap.size tl = W5 := ⟨_, rfl⟩
    rw [hW5] at HZ
    unfold set8 at hW5
    obtain ⟨n0, n1, n2, n3, n4, n5, n6, n7⟩ := r4.eight
    simp only [nil] at n0 n1 n2 n3 n4 n5 n6 n7
    have nf := fun j => r4.free j
    clear r4 r5 s5 k5 s4 k4 HF CR
    go_wp2
    obtain ⟨q1, q2, q3⟩ := HZ.out
    obtain ⟨r0, r1, r2, r3, r4, r5, r6, r7⟩ := q1.eight
    exact bodyPost_ret (v := tolV tl) (by simp [results, Tryz.results61, go_sem, r0, r1, r2, r3, r4, r5, r6, r7, tolV]) rfl ⟨rfl, ⟨_, _, _, _, q2⟩, q3⟩
theorem rising_any {No : Nat → Prop} {w : World} {B : Nat} {wv : Value} {T A b a S hb c : Nat} {d : SD} (h : So No w B wv T A b a S hb c d) (hc : c ≤ 900000) (h1 : -4611686018427387904 ≤ d.1.i) (h2 : d.1.i ≤ 4611686018427387904) (h3 : -4611686018427387904 ≤ d.1.up) (h4 : d.1.up ≤ 4611686018427387904) (h5 : -4611686018427387904 ≤ d.1.j) (h6 : d.1.j ≤ 4611686018427387904) (less : Bool) :
    Calls Tryz.prog 61 #[.pointer (some ⟨B, 0, none⟩), .bool less] w (GP No w B T S hb (c + 1) (risingR d less)) := by
  cases less with
  | true => exact rising_yes h hc h1 h2 h3 h4
  | false => exact (rising_no h hc h5 h6).mono fun e w' hh => ⟨hh.1, ⟨_, _, _, _, hh.2.1⟩, hh.2.2⟩
end Go.Proofs.YtkmopcanaalemabGreat

/- The sorter's row of rows: one taken off. -/
namespace Go.Proofs.YtkmopcanaalemabGreat
open Go.RowKit

theorem rws_snoc (l : List (Int × Int)) (r : Int × Int) : rws (r :: l).reverse = rws l.reverse ++ [.int .i64 r.1, .int .i64 r.2] := by
  unfold rws
  rw [List.reverse_cons, List.flatMap_append]
  rfl
theorem rws_len (l : List (Int × Int)) : (rws l).length = l.length * 2 := by
  induction l with
  | nil => rfl
  | cons r l ih =>
    unfold rws at ih ⊢
    rw [List.flatMap_cons, List.length_append, ih]
    simp
    omega
/-- The sorter's own cells have changed, its slice of rows too; nothing else that was there. -/
theorem So.to2 {No : Nat → Prop} {w W : World} {B : Nat} {wv wv' : Value} {T A b a S hb c : Nat} {d : SD} (h : So No w B wv T A b a S hb c d) (k : Keep (fun g => g ≠ B ∧ g < w.heap.size) w W) (s' : SS) (hb' : W.heap[B]? = some (.cells (scl T wv' s') 73 (0, 0))) (hr : W.ownsRow (B + 1) 70 2 wv' s'.wt.length (rws s'.wt.reverse)) (hv : ∀ g, wv'.ownBlock = some g → wv.ownBlock = some g) : So No W B wv' T A b a S hb c (s', d.2) ∧ Keep No w W := by
  refine ⟨⟨hb', hr, ?_, h.nB, fun g q => h.nW g (hv g q)⟩, ⟨k.os, k.tape, k.output, k.size, fun g hg q => k.block g hg ⟨fun e => h.nB (e ▸ q), hg⟩⟩⟩
  exact (h.tt.frame2 k.os k.tape k.output k.size (fun g hg hn => k.block g hg ⟨fun e => hn (.inr (.inl e)), hg⟩)).sub (fun g q => by
    rcases q with q | q | q
    · exact .inl (.inl q)
    · exact .inl (.inr (.inl q))
    · exact .inl (.inr (.inr (hv g q))))
/-- The last row that waits: where it stands, and the sorter without it. -/
theorem So.last {No : Nat → Prop} {w : World} {B : Nat} {wv : Value} {T A b a S hb c : Nat} {d : SD} (h : So No w B wv T A b a S hb c d) {r : Int × Int} {l : List (Int × Int)} (hw : d.1.wt = r :: l) :
    ∃ g cap, wv = .slice (some ⟨g, 0, none⟩) (l.length + 1) cap ∧ B < g ∧ l.length + 1 ≤ cap ∧ (cap : Int) ≤ 9223372036854775807 ∧ w.cell? ⟨g, l.length * 2, none⟩ = some (.int .i64 r.1) ∧ w.cell? ⟨g, l.length * 2 + 1, none⟩ = some (.int .i64 r.2) ∧
      ∀ W s', Keep (fun g => g ≠ B ∧ g < w.heap.size) w W → W.heap[B]? = some (.cells (scl T (.slice (some ⟨g, 0, none⟩) l.length cap) s') 73 (0, 0)) → s'.wt = l → So No W B (.slice (some ⟨g, 0, none⟩) l.length cap) T A b a S hb c (s', d.2) ∧ Keep No w W := by
  have hrow := h.row
  rw [hw, rws_snoc] at hrow
  simp only [List.length_cons] at hrow
  rcases hrow.2 with ⟨_, h0⟩ | ⟨g, cap, cur, e, hg, hb, hn, hm, hs, ht⟩
  · omega
  · subst e
    have hl := rws_len l.reverse
    rw [List.length_reverse] at hl
    have c0 := World.ownsRow.cellAt hrow (l.length * 2) (by omega)
    have c1 := World.ownsRow.cellAt hrow (l.length * 2 + 1) (by omega)
    rw [List.getElem?_append_right (by omega), show l.length * 2 - (rws l.reverse).length = 0 by omega] at c0
    rw [List.getElem?_append_right (by omega), show l.length * 2 + 1 - (rws l.reverse).length = 1 by omega] at c1
    refine ⟨g, cap, rfl, by omega, hn, ?_, c0, c1, fun W s' k bW ew => ?_⟩
    · unfold maxLen at hm; omega
    · refine h.to2 k s' bW ?_ (fun g' q => q)
      have hp := ownsRow_pop (by rw [hl]) hrow
      rw [ew]
      refine ⟨hp.1, ?_⟩
      rcases hp.2 with ⟨q, _⟩ | ⟨g', cap', cur', e', q1, q2, q3⟩
      · cases q
      · cases e'
        refine .inr ⟨g, cap, cur', rfl, q1, ?_, q3⟩
        have hlt := (Array.getElem?_eq_some_iff.1 q2).1
        rw [k.block g hlt ⟨by omega, hlt⟩]
        exact q2
end Go.Proofs.YtkmopcanaalemabGreat

/- The sorter within a function's body: its state, and all calls and stores on it. -/
namespace Go.Proofs.YtkmopcanaalemabGreat
open Go.RowKit

/-- The sorter at a place of a body that began in W0; others' blocks are as they were. -/
structure Sk (N2 : Nat → Prop) (W0 w : World) (B : Nat) (wv : Value) (T A b a S hb c : Nat) (d : SD) : Prop where
  so : So N2 w B wv T A b a S hb c d
  kp : Keep N2 W0 w
theorem Sk.below {N2 : Nat → Prop} {W0 w w' : World} {B : Nat} {wv : Value} {T A b a S hb c : Nat} {d : SD} (h : Sk N2 W0 w B wv T A b a S hb c d) (k : Below w.heap.size w w') : Sk N2 W0 w' B wv T A b a S hb c d := ⟨h.so.below k, h.kp.trans (Keep.of k)⟩
theorem Sk.drewN {N2 : Nat → Prop} {W0 w : World} {B : Nat} {wv : Value} {T A b a S hb c : Nat} {d : SD} (h : Sk N2 W0 w B wv T A b a S hb c d) (n : Nat) : Sk N2 W0 (w.drewN n) B wv T A b a S hb c d := h.below (bdrewN w n)
theorem Sk.more {N2 : Nat → Prop} {W0 w : World} {B : Nat} {wv : Value} {T A b a S hb c c' : Nat} {d : SD} (h : Sk N2 W0 w B wv T A b a S hb c d) (hc : c ≤ c') : Sk N2 W0 w B wv T A b a S hb c' d := ⟨h.so.more hc, h.kp⟩
/-- A value as it is returned. -/
abbrev va (v : V) : Value := .agg #[.int .i64 v.1, .int .i64 v.2.1, .string v.2.2]
theorem Sk.rd {N2 : Nat → Prop} {W0 w : World} {B : Nat} {wv : Value} {T A b a S hb c : Nat} {d : SD} (h : Sk N2 W0 w B wv T A b a S hb c d) (hc : c ≤ 900000) (n : Int) (h1 : -9223372036854775808 ≤ n) (h2 : n ≤ 9223372036854775807) (m : Nat) :
    Calls Tryz.prog 100 #[.pointer (some ⟨B, 0, none⟩), .int .i64 n] (w.drewN m) fun e w' => e = .returned (.agg #[.int .i64 (rdV d n).1, .int .i64 (rdV d n).2.1, .string (rdV d n).2.2]) ∧ Sk N2 W0 w' B wv T A b a S hb (c + 1) (rdD d n) :=
  (read_any (h.drewN m).so hc n h1 h2).mono fun _ _ hh => ⟨hh.1, hh.2.1, (h.drewN m).kp.trans (hh.2.2.sub (fun _ q => .inl q))⟩
theorem Sk.pu {N2 : Nat → Prop} {W0 w : World} {B : Nat} {wv : Value} {T A b a S hb c : Nat} {d : SD} (h : Sk N2 W0 w B wv T A b a S hb c d) (hc : c ≤ 600000) (i1 i2 : Int) (v u : V) (h1 : -9223372036854775808 ≤ i1) (h2 : i1 ≤ 9223372036854775807) (h3 : -9223372036854775808 ≤ i2) (h4 : i2 ≤ 9223372036854775807) (m : Nat) :
    Calls Tryz.prog 97 #[.pointer (some ⟨B, 0, none⟩), .int .i64 i1, .agg #[.int .i64 v.1, .int .i64 v.2.1, .string v.2.2], .int .i64 i2, .agg #[.int .i64 u.1, .int .i64 u.2.1, .string u.2.2]] (w.drewN m) fun e w' => e = .returned (.int .i64 (putE d i1 v i2 u)) ∧ ∃ A' b' a', Sk N2 W0 w' B wv T A' b' a' S hb (c + 14) (putD d i1 v i2 u) :=
  (put_any (h.drewN m).so hc i1 i2 v u h1 h2 h3 h4).mono fun _ _ hh => ⟨hh.1, by
    obtain ⟨A', b', a', q⟩ := hh.2.1
    exact ⟨A', b', a', q, (h.drewN m).kp.trans (hh.2.2.sub (fun _ q => .inl q))⟩⟩
/-- A value is stored into three cells of the sorter. -/
theorem Sk.st3 {N2 : Nat → Prop} {W0 w : World} {B : Nat} {wv : Value} {T A b a S hb c : Nat} {d : SD} (h : Sk N2 W0 w B wv T A b a S hb c d) (j : Nat) (x : V) (s' : SS) (hs : scl T wv s' = (((scl T wv d.1).setIfInBounds j (.int .i64 x.1)).setIfInBounds (j + 1) (.int .i64 x.2.1)).setIfInBounds (j + 2) (.string x.2.2)) (hw : s'.wt = d.1.wt) : Sk N2 W0 (stX w B j x) B wv T A b a S hb c (s', d.2) := by
  have k := stX_keep w B j x
  obtain ⟨q1, q2⟩ := h.so.to (k.sub (fun g q => q.1)) s' ((stX_blk h.so.blk j x).trans (by rw [hs])) hw
  exact ⟨q1, h.kp.trans q2⟩
/-- A number is stored into one cell of the sorter. -/
theorem Sk.st1 {N2 : Nat → Prop} {W0 w : World} {B : Nat} {wv : Value} {T A b a S hb c : Nat} {d : SD} (h : Sk N2 W0 w B wv T A b a S hb c d) (j : Nat) (x : Int) (s' : SS) (hs : scl T wv s' = (scl T wv d.1).setIfInBounds j (.int .i64 x)) (hw : s'.wt = d.1.wt) : Sk N2 W0 (w.setCell ⟨B, j, none⟩ (.int .i64 x)) B wv T A b a S hb c (s', d.2) := by
  have k : Keep (fun g => g ≠ B) w (w.setCell ⟨B, j, none⟩ (.int .i64 x)) := (Keep.refl _ w).set (p := ⟨B, j, none⟩) (fun q => q rfl) _
  obtain ⟨q1, q2⟩ := h.so.to (k.sub (fun g q => q.1)) s' ((blk_set (j := j) h.so.blk _).trans (by rw [hs])) hw
  exact ⟨q1, h.kp.trans q2⟩
/-- What a body's end comes to: the answer is stored, and told. -/
theorem So.tell2 {No : Nat → Prop} {w : World} {B : Nat} {wv : Value} {T A b a S hb c : Nat} {d : SD} (h : So No w B wv T A b a S hb c d) :
    ∃ N2 : Nat → Prop, Sk N2 (w.alloc z8) (w.alloc z8) B wv T A b a S hb c d ∧ ∀ w4 wv' A' b' a' c' d' (tl : Tol), Sk N2 (w.alloc z8) w4 B wv' T A' b' a' S hb c' d' →
      R8 w4 w.heap.size (nil, nil, false, 0) ∧ R8 (set8 w4 w.heap.size tl) w.heap.size tl ∧ So No (set8 w4 w.heap.size tl) B wv' T A' b' a' S hb c' d' ∧ Keep No w (set8 w4 w.heap.size tl) := by
  obtain ⟨N2, s0, hf⟩ := h.tell
  exact ⟨N2, ⟨s0, Keep.refl _ _⟩, fun w4 wv' A' b' a' c' d' tl k => hf w4 wv' A' b' a' c' d' tl k.kp k.so⟩
theorem Sk.ask {N2 : Nat → Prop} {W0 w : World} {B : Nat} {wv : Value} {T A b a S hb c : Nat} {d : SD} (h : Sk N2 W0 w B wv T A b a S hb c d) (k : Int) (v u : V) (m : Nat) :
    Calls Tryz.prog 101 #[.pointer (some ⟨B, 0, none⟩), .int .i64 k, .agg #[.int .i64 v.1, .int .i64 v.2.1, .string v.2.2], .agg #[.int .i64 u.1, .int .i64 u.2.1, .string u.2.2]] (w.drewN m) fun e w' => e = .returned (tolV (askT v u)) ∧ Sk N2 W0 w' B wv T A b a S hb c (askD d k) :=
  (ask_any (h.drewN m).so k v u).mono fun _ _ hh => ⟨hh.1, hh.2.1, (h.drewN m).kp.trans hh.2.2⟩
theorem Sk.en {N2 : Nat → Prop} {W0 w : World} {B : Nat} {wv : Value} {T A b a S hb c : Nat} {d : SD} (h : Sk N2 W0 w B wv T A b a S hb c d) (er : Int) (m : Nat) :
    Calls Tryz.prog 98 #[.pointer (some ⟨B, 0, none⟩), .int .i64 er] (w.drewN m) fun e w' => e = .returned (tolV (endT er)) ∧ Sk N2 W0 w' B (.slice none 0 0) T A b a S hb c (endD d er) :=
  (end_any (h.drewN m).so er).mono fun _ _ hh => ⟨hh.1, hh.2.1, (h.drewN m).kp.trans hh.2.2⟩
/-- What a function of the sorter comes to, within a body. -/
def Gk (N2 : Nat → Prop) (W0 : World) (B T S hb c : Nat) (r : SD × Tol) (e : Ending) (w' : World) : Prop := e = .returned (tolV r.2) ∧ ∃ wv' A' b' a', Sk N2 W0 w' B wv' T A' b' a' S hb c r.1
theorem Sk.of {N2 : Nat → Prop} {W0 w : World} {B : Nat} {wv : Value} {T A b a S hb c c' : Nat} {d : SD} {f : FuncId} {xs : Array Value} {r : SD × Tol} (h : Sk N2 W0 w B wv T A b a S hb c d) (m : Nat) (C : ∀ {No : Nat → Prop} {w : World}, So No w B wv T A b a S hb c d → Calls Tryz.prog f xs w (GP No w B T S hb c' r)) :
    Calls Tryz.prog f xs (w.drewN m) (Gk N2 W0 B T S hb c' r) :=
  (C (h.drewN m).so).mono fun _ _ hh => ⟨hh.1, by
    obtain ⟨wv', A', b', a', q⟩ := hh.2.1
    exact ⟨wv', A', b', a', q, (h.drewN m).kp.trans hh.2.2⟩⟩
end Go.Proofs.YtkmopcanaalemabGreat
