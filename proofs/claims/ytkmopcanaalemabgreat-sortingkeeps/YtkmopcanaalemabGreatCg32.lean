/- The sorter's numbers where it stands within 1 to n. -/
import Derived.Test.YtkmopcanaalemabGreatCg31
import Derived.Test.YtkmopcanaalemabGreatCg21
import Derived.Test.YtkmopcanaalemabGreatCg24
import Derived.Test.YtkmopcanaalemabGreatCg30
import Derived.BigRegion
import Derived.Deep.DeepCutAuto
namespace Go.Proofs.YtkmopcanaalemabGreat
/-- The sorter's numbers are such that one may reckon with them. -/
structure Fit (s : SS) : Prop where
  row : Bdr s
  lo : 1 ≤ s.ak → s.ak ≤ 5 → (-2305843009213693952 ≤ s.lo ∧ s.lo ≤ 2305843009213693952) ∧ (-2305843009213693952 ≤ s.up ∧ s.up ≤ 2305843009213693952) ∧ s.lo < s.up
  p : s.ak = 2 ∨ s.ak = 3 → -2305843009213693952 ≤ s.p ∧ s.p ≤ 2305843009213693952
  i : s.ak = 4 ∨ s.ak = 5 → -2305843009213693952 ≤ s.i ∧ s.i ≤ 2305843009213693952
  j : s.ak = 4 ∨ s.ak = 5 → -2305843009213693952 ≤ s.j ∧ s.j ≤ 2305843009213693952
  wl : s.wt.length ≤ 900000
theorem Fit.wt {s : SS} (h : Fit s) : ∀ r ∈ s.wt, r.1 < r.2 → -4611686018427387904 ≤ r.1 ∧ r.2 ≤ 4611686018427387904 := fun r hr => h.row r (List.mem_cons_of_mem _ hr)
theorem U.Nx.fit {n : Nat} {s : SS} {f : Int → V} {L : Int} (h : U.Nx n s f L) (hn : n ≤ 1000000) (hw : s.wt.length ≤ 900000) : Fit s ∧ 0 ≤ s.ak ∧ s.ak ≤ 6 := by
  rcases h with ⟨e, _⟩ | ⟨hi, _⟩
  · subst e
    refine ⟨⟨fun r hr hlt => ?_, fun q => absurd (show (1 : Int) ≤ 0 from q) (by omega), fun q => ?_, fun q => ?_, fun q => ?_, hw⟩, Int.le_refl _, by show (0 : Int) ≤ 6; omega⟩
    · rcases List.mem_cons.1 hr with e | e
      · subst e
        have h1 : ((U.s0 (n : Int)).lo, (U.s0 (n : Int)).up).1 = 1 := rfl
        have h2 : ((U.s0 (n : Int)).lo, (U.s0 (n : Int)).up).2 = (n : Int) := rfl
        rw [h1, h2]
        omega
      · cases e
    · rcases q with q | q
      · exact absurd (show (0 : Int) = 2 from q) (by omega)
      · exact absurd (show (0 : Int) = 3 from q) (by omega)
    · rcases q with q | q
      · exact absurd (show (0 : Int) = 4 from q) (by omega)
      · exact absurd (show (0 : Int) = 5 from q) (by omega)
    · rcases q with q | q
      · exact absurd (show (0 : Int) = 4 from q) (by omega)
      · exact absurd (show (0 : Int) = 5 from q) (by omega)
  · have h1 := hi.lt
    have h2 := hi.lo
    have h3 := hi.up
    refine ⟨⟨fun r hr hlt => ?_, fun _ _ => ⟨⟨by omega, by omega⟩, ⟨by omega, by omega⟩, h1⟩, fun q => ?_, fun q => ?_, fun q => ?_, hw⟩, ?_⟩
    · rcases List.mem_cons.1 hr with e | e
      · subst e
        simp only
        omega
      · have := hi.wt r e hlt
        omega
    · rcases hi.st with z | z | z | z | z <;> omega
    · rcases hi.st with z | z | z | z | z <;> omega
    · rcases hi.st with z | z | z | z | z <;> omega
    · rcases hi.st with z | z | z | z | z <;> omega
end Go.Proofs.YtkmopcanaalemabGreat

/- The walk of goOn. -/
namespace Go.Proofs.YtkmopcanaalemabGreat
open Go.RowKit

theorem low_any {No : Nat → Prop} {w : World} {B : Nat} {wv : Value} {T A b a S hb c : Nat} {d : SD} (h : So No w B wv T A b a S hb c d) (hc : c ≤ 400000) (b1 : -2305843009213693952 ≤ d.1.lo) (b2 : d.1.lo ≤ 2305843009213693952) (b3 : -2305843009213693952 ≤ d.1.up) (b4 : d.1.up ≤ 2305843009213693952) (b5 : -2305843009213693952 ≤ d.1.p) (b6 : d.1.p ≤ 2305843009213693952) (hr : ∀ r ∈ d.1.wt, r.1 < r.2 → -4611686018427387904 ≤ r.1 ∧ r.2 ≤ 4611686018427387904) (less : Bool) :
    Calls Tryz.prog 59 #[.pointer (some ⟨B, 0, none⟩), .bool less] w (GP No w B T S hb (c + 31) (lowR d less)) := by
  cases less with
  | true => exact low_y h hc b1 b2 b3 b4 b5 b6 hr
  | false => exact low_n h hc b3 b4
theorem high_any {No : Nat → Prop} {w : World} {B : Nat} {wv : Value} {T A b a S hb c : Nat} {d : SD} (h : So No w B wv T A b a S hb c d) (hc : c ≤ 400000) (b1 : -2305843009213693952 ≤ d.1.lo) (b2 : d.1.lo ≤ 2305843009213693952) (b3 : -2305843009213693952 ≤ d.1.up) (b4 : d.1.up ≤ 2305843009213693952) (b5 : -2305843009213693952 ≤ d.1.p) (b6 : d.1.p ≤ 2305843009213693952) (hr : ∀ r ∈ d.1.wt, r.1 < r.2 → -4611686018427387904 ≤ r.1 ∧ r.2 ≤ 4611686018427387904) (less : Bool) :
    Calls Tryz.prog 60 #[.pointer (some ⟨B, 0, none⟩), .bool less] w (GP No w B T S hb (c + 31) (highR d less)) := by
  cases less with
  | true => exact high_y h hc b1 b2 b3 b4 b5 b6 hr
  | false => exact high_n h hc b1 b2 b3 b4 b5 b6 hr
set_option maxRecDepth 20000 in
set_option maxHeartbeats 4000000 in
theorem goOn_1 {No : Nat → Prop} {w : World} {B : Nat} {wv : Value} {T A b a S hb c : Nat} {d : SD} (h : So No w B wv T A b a S hb c d) (hc : c ≤ 400000) (hf : Fit d.1) (less : Bool) (ea : d.1.ak = 1) :
    Calls Tryz.prog 28 #[.pointer (some ⟨B, 0, none⟩), .bool less] w (GP No w B T S hb (c + 31) (goR d less)) := by
  obtain ⟨N2, s0, HF0⟩ := h.tell2
  have HF : Hid _ := HF0
  obtain ⟨W0, hW0⟩ : ∃ W0, w.alloc z8 = W0 := ⟨_, rfl⟩
  rw [hW0] at HF s0
  unfold z8 at hW0
  clear HF0
  have a4 : W0.cell? ⟨B, 4, none⟩ = some (.int .i64 1) := by
    have e : W0.cell? ⟨B, 4, none⟩ = some (.int .i64 d.1.ak) := s0.so.cell (j := 4) rfl
    rw [ea] at e
    exact e
  obtain ⟨⟨b1, b2⟩, ⟨b3, b4⟩, hlt⟩ := hf.lo (by omega) (by omega)
  have C := s0.of0 (f := 58) (xs := #[.pointer (some ⟨B, 0, none⟩), .bool less]) (bself W0) (fun q => ends_any q (by omega) b1 b2 b3 b4 hlt hf.wt less)
  obtain ⟨R, hR⟩ : ∃ R, goR d less = R := ⟨_, rfl⟩
  have eR : endsR d less = R := by rw [← hR]; unfold goR; rw [if_pos ea]
  rw [hR]
  rw [eR] at C
  unfold GP
  clear h s0 hR eR hf ea
  go_enter Tryz.func28, Tryz.ntmps28
  go_wp2_with fail
  refine (C).mono ?_
  rintro e w4 ⟨rfl, wv4, A4, b4, a4, s4⟩
  obtain ⟨r4, r5, s5, k5⟩ := HF.out w4 wv4 A4 b4 a4 _ _ R.2 s4
  have HZ : Hid (_ ∧ _ ∧ _) := ⟨r5, s5, k5⟩
  obtain ⟨tl, htl⟩ : ∃ tl, R.2 = tl := ⟨_, rfl⟩
  rw [htl] at HZ ⊢
  obtain ⟨W5, hW5⟩ : ∃ W5, set8 w4 w.heap.size tl = W5 := ⟨_, rfl⟩
  rw [hW5] at HZ
  unfold set8 at hW5
  unfold tolV
  obtain ⟨n0, n1, n2, n3, n4, n5, n6, n7⟩ := r4.eight
  simp only [nil] at n0 n1 n2 n3 n4 n5 n6 n7
  have nf := fun j => r4.free j
  clear r4 r5 s5 k5 s4 HF C
  go_wp2
  obtain ⟨q1, q2, q3⟩ := HZ.out
  obtain ⟨r0, r1, r2, r3, r4, r5, r6, r7⟩ := q1.eight
  exact bodyPost_ret (v := tolV tl) (by simp [results, Tryz.results28, go_sem, r0, r1, r2, r3, r4, r5, r6, r7, tolV]) rfl ⟨by first | rfl | rw [htl], ⟨_, _, _, _, q2.more (by omega)⟩, q3⟩
set_option maxRecDepth 20000 in
set_option maxHeartbeats 4000000 in
theorem goOn_2 {No : Nat → Prop} {w : World} {B : Nat} {wv : Value} {T A b a S hb c : Nat} {d : SD} (h : So No w B wv T A b a S hb c d) (hc : c ≤ 400000) (hf : Fit d.1) (less : Bool) (ea : d.1.ak = 2) :
    Calls Tryz.prog 28 #[.pointer (some ⟨B, 0, none⟩), .bool less] w (GP No w B T S hb (c + 31) (goR d less)) := by
  obtain ⟨N2, s0, HF0⟩ := h.tell2
  have HF : Hid _ := HF0
  obtain ⟨W0, hW0⟩ : ∃ W0, w.alloc z8 = W0 := ⟨_, rfl⟩
  rw [hW0] at HF s0
  unfold z8 at hW0
  clear HF0
  have a4 : W0.cell? ⟨B, 4, none⟩ = some (.int .i64 2) := by
    have e : W0.cell? ⟨B, 4, none⟩ = some (.int .i64 d.1.ak) := s0.so.cell (j := 4) rfl
    rw [ea] at e
    exact e
  obtain ⟨⟨b1, b2⟩, ⟨b3, b4⟩, hlt⟩ := hf.lo (by omega) (by omega)
  obtain ⟨b5, b6⟩ := hf.p (by omega)
  have hw := hf.wt
  have C := s0.of0 (f := 59) (xs := #[.pointer (some ⟨B, 0, none⟩), .bool less]) (bself W0) (fun q => low_any q (by omega) b1 b2 b3 b4 b5 b6 hw less)
  clear hlt
  obtain ⟨R, hR⟩ : ∃ R, goR d less = R := ⟨_, rfl⟩
  have eR : lowR d less = R := by rw [← hR]; unfold goR; rw [if_neg (by omega), if_pos ea]
  rw [hR]
  rw [eR] at C
  unfold GP
  clear h s0 hR eR hf ea
  go_enter Tryz.func28, Tryz.ntmps28
  go_wp2_with fail
  refine (C).mono ?_
  rintro e w4 ⟨rfl, wv4, A4, b4, a4, s4⟩
  obtain ⟨r4, r5, s5, k5⟩ := HF.out w4 wv4 A4 b4 a4 _ _ R.2 s4
  have HZ : Hid (_ ∧ _ ∧ _) := ⟨r5, s5, k5⟩
  obtain ⟨tl, htl⟩ : ∃ tl, R.2 = tl := ⟨_, rfl⟩
  rw [htl] at HZ ⊢
  obtain ⟨W5, hW5⟩ : ∃ W5, set8 w4 w.heap.size tl = W5 := ⟨_, rfl⟩
  rw [hW5] at HZ
  unfold set8 at hW5
  unfold tolV
  obtain ⟨n0, n1, n2, n3, n4, n5, n6, n7⟩ := r4.eight
  simp only [nil] at n0 n1 n2 n3 n4 n5 n6 n7
  have nf := fun j => r4.free j
  clear r4 r5 s5 k5 s4 HF C
  go_wp2
  obtain ⟨q1, q2, q3⟩ := HZ.out
  obtain ⟨r0, r1, r2, r3, r4, r5, r6, r7⟩ := q1.eight
  exact bodyPost_ret (v := tolV tl) (by simp [results, Tryz.results28, go_sem, r0, r1, r2, r3, r4, r5, r6, r7, tolV]) rfl ⟨by first | rfl | rw [htl], ⟨_, _, _, _, q2.more (by omega)⟩, q3⟩
set_option maxRecDepth 20000 in
set_option maxHeartbeats 4000000 in
theorem goOn_3 {No : Nat → Prop} {w : World} {B : Nat} {wv : Value} {T A b a S hb c : Nat} {d : SD} (h : So No w B wv T A b a S hb c d) (hc : c ≤ 400000) (hf : Fit d.1) (less : Bool) (ea : d.1.ak = 3) :
    Calls Tryz.prog 28 #[.pointer (some ⟨B, 0, none⟩), .bool less] w (GP No w B T S hb (c + 31) (goR d less)) := by
  obtain ⟨N2, s0, HF0⟩ := h.tell2
  have HF : Hid _ := HF0
  obtain ⟨W0, hW0⟩ : ∃ W0, w.alloc z8 = W0 := ⟨_, rfl⟩
  rw [hW0] at HF s0
  unfold z8 at hW0
  clear HF0
  have a4 : W0.cell? ⟨B, 4, none⟩ = some (.int .i64 3) := by
    have e : W0.cell? ⟨B, 4, none⟩ = some (.int .i64 d.1.ak) := s0.so.cell (j := 4) rfl
    rw [ea] at e
    exact e
  obtain ⟨⟨b1, b2⟩, ⟨b3, b4⟩, hlt⟩ := hf.lo (by omega) (by omega)
  obtain ⟨b5, b6⟩ := hf.p (by omega)
  have hw := hf.wt
  have C := s0.of0 (f := 60) (xs := #[.pointer (some ⟨B, 0, none⟩), .bool less]) (bself W0) (fun q => high_any q (by omega) b1 b2 b3 b4 b5 b6 hw less)
  clear hlt
  obtain ⟨R, hR⟩ : ∃ R, goR d less = R := ⟨_, rfl⟩
  have eR : highR d less = R := by rw [← hR]; unfold goR; rw [if_neg (by omega), if_neg (by omega), if_pos ea]
  rw [hR]
  rw [eR] at C
  unfold GP
  clear h s0 hR eR hf ea
  go_enter Tryz.func28, Tryz.ntmps28
  go_wp2_with fail
  refine (C).mono ?_
  rintro e w4 ⟨rfl, wv4, A4, b4, a4, s4⟩
  obtain ⟨r4, r5, s5, k5⟩ := HF.out w4 wv4 A4 b4 a4 _ _ R.2 s4
  have HZ : Hid (_ ∧ _ ∧ _) := ⟨r5, s5, k5⟩
  obtain ⟨tl, htl⟩ : ∃ tl, R.2 = tl := ⟨_, rfl⟩
  rw [htl] at HZ ⊢
  obtain ⟨W5, hW5⟩ : ∃ W5, set8 w4 w.heap.size tl = W5 := ⟨_, rfl⟩
  rw [hW5] at HZ
  unfold set8 at hW5
  unfold tolV
  obtain ⟨n0, n1, n2, n3, n4, n5, n6, n7⟩ := r4.eight
  simp only [nil] at n0 n1 n2 n3 n4 n5 n6 n7
  have nf := fun j => r4.free j
  clear r4 r5 s5 k5 s4 HF C
  go_wp2
  obtain ⟨q1, q2, q3⟩ := HZ.out
  obtain ⟨r0, r1, r2, r3, r4, r5, r6, r7⟩ := q1.eight
  exact bodyPost_ret (v := tolV tl) (by simp [results, Tryz.results28, go_sem, r0, r1, r2, r3, r4, r5, r6, r7, tolV]) rfl ⟨by first | rfl | rw [htl], ⟨_, _, _, _, q2.more (by omega)⟩, q3⟩
set_option maxRecDepth 20000 in
set_option maxHeartbeats 4000000 in
theorem goOn_4 {No : Nat → Prop} {w : World} {B : Nat} {wv : Value} {T A b a S hb c : Nat} {d : SD} (h : So No w B wv T A b a S hb c d) (hc : c ≤ 400000) (hf : Fit d.1) (less : Bool) (ea : d.1.ak = 4) :
    Calls Tryz.prog 28 #[.pointer (some ⟨B, 0, none⟩), .bool less] w (GP No w B T S hb (c + 31) (goR d less)) := by
  obtain ⟨N2, s0, HF0⟩ := h.tell2
  have HF : Hid _ := HF0
  obtain ⟨W0, hW0⟩ : ∃ W0, w.alloc z8 = W0 := ⟨_, rfl⟩
  rw [hW0] at HF s0
  unfold z8 at hW0
  clear HF0
  have a4 : W0.cell? ⟨B, 4, none⟩ = some (.int .i64 4) := by
    have e : W0.cell? ⟨B, 4, none⟩ = some (.int .i64 d.1.ak) := s0.so.cell (j := 4) rfl
    rw [ea] at e
    exact e
  obtain ⟨⟨b1, b2⟩, ⟨b3, b4⟩, hlt⟩ := hf.lo (by omega) (by omega)
  obtain ⟨b7, b8⟩ := hf.i (by omega)
  obtain ⟨b9, b10⟩ := hf.j (by omega)
  have C := s0.of0 (f := 61) (xs := #[.pointer (some ⟨B, 0, none⟩), .bool less]) (bself W0) (fun q => rising_any q (by omega) (by omega) (by omega) (by omega) (by omega) (by omega) (by omega) less)
  clear hlt
  obtain ⟨R, hR⟩ : ∃ R, goR d less = R := ⟨_, rfl⟩
  have eR : risingR d less = R := by rw [← hR]; unfold goR; rw [if_neg (by omega), if_neg (by omega), if_neg (by omega), if_pos ea]
  rw [hR]
  rw [eR] at C
  unfold GP
  clear h s0 hR eR hf ea
  go_enter Tryz.func28, Tryz.ntmps28
  go_wp2_with fail
  refine (C).mono ?_
  rintro e w4 ⟨rfl, wv4, A4, b4, a4, s4⟩
  obtain ⟨r4, r5, s5, k5⟩ := HF.out w4 wv4 A4 b4 a4 _ _ R.2 s4
  have HZ : Hid (_ ∧ _ ∧ _) := ⟨r5, s5, k5⟩
  obtain ⟨tl, htl⟩ : ∃ tl, R.2 = tl := ⟨_, rfl⟩
  rw [htl] at HZ ⊢
  obtain ⟨W5, hW5⟩ : ∃ W5, set8 w4 w.heap.size tl = W5 := ⟨_, rfl⟩
  rw [hW5] at HZ
  unfold set8 at hW5
  unfold tolV
  obtain ⟨n0, n1, n2, n3, n4, n5, n6, n7⟩ := r4.eight
  simp only [nil] at n0 n1 n2 n3 n4 n5 n6 n7
  have nf := fun j => r4.free j
  clear r4 r5 s5 k5 s4 HF C
  go_wp2
  obtain ⟨q1, q2, q3⟩ := HZ.out
  obtain ⟨r0, r1, r2, r3, r4, r5, r6, r7⟩ := q1.eight
  exact bodyPost_ret (v := tolV tl) (by simp [results, Tryz.results28, go_sem, r0, r1, r2, r3, r4, r5, r6, r7, tolV]) rfl ⟨by first | rfl | rw [htl], ⟨_, _, _, _, q2.more (by omega)⟩, q3⟩
set_option maxRecDepth 20000 in
set_option maxHeartbeats 4000000 in
theorem goOn_5 {No : Nat → Prop} {w : World} {B : Nat} {wv : Value} {T A b a S hb c : Nat} {d : SD} (h : So No w B wv T A b a S hb c d) (hc : c ≤ 400000) (hf : Fit d.1) (less : Bool) (ea : d.1.ak = 5) :
    Calls Tryz.prog 28 #[.pointer (some ⟨B, 0, none⟩), .bool less] w (GP No w B T S hb (c + 31) (goR d less)) := by
  obtain ⟨N2, s0, HF0⟩ := h.tell2
  have HF : Hid _ := HF0
  obtain ⟨W0, hW0⟩ : ∃ W0, w.alloc z8 = W0 := ⟨_, rfl⟩
  rw [hW0] at HF s0
  unfold z8 at hW0
  clear HF0
  have a4 : W0.cell? ⟨B, 4, none⟩ = some (.int .i64 5) := by
    have e : W0.cell? ⟨B, 4, none⟩ = some (.int .i64 d.1.ak) := s0.so.cell (j := 4) rfl
    rw [ea] at e
    exact e
  obtain ⟨⟨b1, b2⟩, ⟨b3, b4⟩, hlt⟩ := hf.lo (by omega) (by omega)
  obtain ⟨b7, b8⟩ := hf.i (by omega)
  obtain ⟨b9, b10⟩ := hf.j (by omega)
  have C := s0.of0 (f := 62) (xs := #[.pointer (some ⟨B, 0, none⟩), .bool less]) (bself W0) (fun q => falling_any q (by omega) b1 b2 b3 b4 b7 b8 b9 b10 hf.wl hf.wt less)
  clear hlt
  obtain ⟨R, hR⟩ : ∃ R, goR d less = R := ⟨_, rfl⟩
  have eR : fallingR d less = R := by rw [← hR]; unfold goR; rw [if_neg (by omega), if_neg (by omega), if_neg (by omega), if_neg (by omega), if_pos ea]
  rw [hR]
  rw [eR] at C
  unfold GP
  clear h s0 hR eR hf ea
  go_enter Tryz.func28, Tryz.ntmps28
  go_wp2_with fail
  refine (C).mono ?_
  rintro e w4 ⟨rfl, wv4, A4, b4, a4, s4⟩
  obtain ⟨r4, r5, s5, k5⟩ := HF.out w4 wv4 A4 b4 a4 _ _ R.2 s4
  have HZ : Hid (_ ∧ _ ∧ _) := ⟨r5, s5, k5⟩
  obtain ⟨tl, htl⟩ : ∃ tl, R.2 = tl := ⟨_, rfl⟩
  rw [htl] at HZ ⊢
  obtain ⟨W5, hW5⟩ : ∃ W5, set8 w4 w.heap.size tl = W5 := ⟨_, rfl⟩
  rw [hW5] at HZ
  unfold set8 at hW5
  unfold tolV
  obtain ⟨n0, n1, n2, n3, n4, n5, n6, n7⟩ := r4.eight
  simp only [nil] at n0 n1 n2 n3 n4 n5 n6 n7
  have nf := fun j => r4.free j
  clear r4 r5 s5 k5 s4 HF C
  go_wp2
  obtain ⟨q1, q2, q3⟩ := HZ.out
  obtain ⟨r0, r1, r2, r3, r4, r5, r6, r7⟩ := q1.eight
  exact bodyPost_ret (v := tolV tl) (by simp [results, Tryz.results28, go_sem, r0, r1, r2, r3, r4, r5, r6, r7, tolV]) rfl ⟨by first | rfl | rw [htl], ⟨_, _, _, _, q2.more (by omega)⟩, q3⟩
set_option maxRecDepth 20000 in
set_option maxHeartbeats 4000000 in
theorem goOn_0 {No : Nat → Prop} {w : World} {B : Nat} {wv : Value} {T A b a S hb c : Nat} {d : SD} (h : So No w B wv T A b a S hb c d) (hc : c ≤ 400000) (hf : Fit d.1) (less : Bool) (ea : d.1.ak = 0) :
    Calls Tryz.prog 28 #[.pointer (some ⟨B, 0, none⟩), .bool less] w (GP No w B T S hb (c + 31) (goR d less)) := by
  obtain ⟨N2, s0, HF0⟩ := h.tell2
  have HF : Hid _ := HF0
  obtain ⟨W0, hW0⟩ : ∃ W0, w.alloc z8 = W0 := ⟨_, rfl⟩
  rw [hW0] at HF s0
  unfold z8 at hW0
  clear HF0
  have a4 : W0.cell? ⟨B, 4, none⟩ = some (.int .i64 0) := by
    have e : W0.cell? ⟨B, 4, none⟩ = some (.int .i64 d.1.ak) := s0.so.cell (j := 4) rfl
    rw [ea] at e
    exact e
  have C := s0.of0 (f := 63) (xs := #[.pointer (some ⟨B, 0, none⟩)]) (bself W0) (fun q => nrow_any q (by omega) hf.row)
  obtain ⟨R, hR⟩ : ∃ R, goR d less = R := ⟨_, rfl⟩
  have eR : nrow d = R := by rw [← hR]; unfold goR; rw [if_neg (by omega), if_neg (by omega), if_neg (by omega), if_neg (by omega), if_neg (by omega), if_neg (by omega)]
  rw [hR]
  rw [eR] at C
  unfold GP
  clear h s0 hR eR hf ea
  go_enter Tryz.func28, Tryz.ntmps28
  go_wp2_with fail
  refine (C).mono ?_
  rintro e w4 ⟨rfl, wv4, A4, b4, a4, s4⟩
  obtain ⟨r4, r5, s5, k5⟩ := HF.out w4 wv4 A4 b4 a4 _ _ R.2 s4
  have HZ : Hid (_ ∧ _ ∧ _) := ⟨r5, s5, k5⟩
  obtain ⟨tl, htl⟩ : ∃ tl, R.2 = tl := ⟨_, rfl⟩
  rw [htl] at HZ ⊢
  obtain ⟨W5, hW5⟩ : ∃ W5, set8 w4 w.heap.size tl = W5 := ⟨_, rfl⟩
  rw [hW5] at HZ
  unfold set8 at hW5
  unfold tolV
  obtain ⟨n0, n1, n2, n3, n4, n5, n6, n7⟩ := r4.eight
  simp only [nil] at n0 n1 n2 n3 n4 n5 n6 n7
  have nf := fun j => r4.free j
  clear r4 r5 s5 k5 s4 HF C
  go_wp2
  obtain ⟨q1, q2, q3⟩ := HZ.out
  obtain ⟨r0, r1, r2, r3, r4, r5, r6, r7⟩ := q1.eight
  exact bodyPost_ret (v := tolV tl) (by simp [results, Tryz.results28, go_sem, r0, r1, r2, r3, r4, r5, r6, r7, tolV]) rfl ⟨by first | rfl | rw [htl], ⟨_, _, _, _, q2.more (by omega)⟩, q3⟩
set_option maxRecDepth 20000 in
set_option maxHeartbeats 4000000 in
theorem goOn_6 {No : Nat → Prop} {w : World} {B : Nat} {wv : Value} {T A b a S hb c : Nat} {d : SD} (h : So No w B wv T A b a S hb c d) (less : Bool) (ea : d.1.ak = 6) :
    Calls Tryz.prog 28 #[.pointer (some ⟨B, 0, none⟩), .bool less] w (GP No w B T S hb (c + 31) (goR d less)) := by
  obtain ⟨N2, s0, HF0⟩ := h.tell2
  have HF : Hid _ := HF0
  obtain ⟨W0, hW0⟩ : ∃ W0, w.alloc z8 = W0 := ⟨_, rfl⟩
  rw [hW0] at HF s0
  unfold z8 at hW0
  clear HF0
  have a4 : W0.cell? ⟨B, 4, none⟩ = some (.int .i64 6) := by
    have e : W0.cell? ⟨B, 4, none⟩ = some (.int .i64 d.1.ak) := s0.so.cell (j := 4) rfl
    rw [ea] at e
    exact e
  have a17 : W0.cell? ⟨B, 17, none⟩ = some (.int .i64 d.1.er) := s0.so.cell (j := 17) rfl
  have eR : goR d less = (d, endT d.1.er) := by unfold goR; rw [if_neg (by omega), if_neg (by omega), if_neg (by omega), if_neg (by omega), if_neg (by omega), if_pos ea]
  rw [eR]
  unfold GP
  obtain ⟨r4, r5, s5, k5⟩ := HF.out W0 wv A b a c d (endT d.1.er) s0
  have HZ : Hid (_ ∧ _ ∧ _) := ⟨r5, s5, k5⟩
  obtain ⟨W5, hW5⟩ : ∃ W5, set8 W0 w.heap.size (endT d.1.er) = W5 := ⟨_, rfl⟩
  rw [hW5] at HZ
  unfold set8 endT nil at hW5
  obtain ⟨n0, n1, n2, n3, n4, n5, n6, n7⟩ := r4.eight
  simp only [nil] at n0 n1 n2 n3 n4 n5 n6 n7
  have nf := fun j => r4.free j
  clear r4 r5 s5 k5 HF h s0 eR ea
  go_enter Tryz.func28, Tryz.ntmps28
  go_wp2
  obtain ⟨q1, q2, q3⟩ := HZ.out
  obtain ⟨r0, r1, r2, r3, r4, r5, r6, r7⟩ := q1.eight
  exact bodyPost_ret (v := tolV (endT d.1.er)) (by simp [results, Tryz.results28, go_sem, r0, r1, r2, r3, r4, r5, r6, r7, tolV]) rfl ⟨rfl, ⟨_, _, _, _, q2.more (by omega)⟩, q3⟩
theorem goOn_any {No : Nat → Prop} {w : World} {B : Nat} {wv : Value} {T A b a S hb c : Nat} {d : SD} (h : So No w B wv T A b a S hb c d) (hc : c ≤ 400000) (hf : Fit d.1) (less : Bool) (ha : 0 ≤ d.1.ak ∧ d.1.ak ≤ 6) :
    Calls Tryz.prog 28 #[.pointer (some ⟨B, 0, none⟩), .bool less] w (GP No w B T S hb (c + 31) (goR d less)) := by
  rcases (show d.1.ak = 0 ∨ d.1.ak = 1 ∨ d.1.ak = 2 ∨ d.1.ak = 3 ∨ d.1.ak = 4 ∨ d.1.ak = 5 ∨ d.1.ak = 6 by omega) with e | e | e | e | e | e | e
  · exact goOn_0 h hc hf less e
  · exact goOn_1 h hc hf less e
  · exact goOn_2 h hc hf less e
  · exact goOn_3 h hc hf less e
  · exact goOn_4 h hc hf less e
  · exact goOn_5 h hc hf less e
  · exact goOn_6 h less e
end Go.Proofs.YtkmopcanaalemabGreat
