/- The walk of Pair, on: among the nodes. -/
import Derived.Test.YtckgoedlgecokaaGreatDoorCg16
import Derived.Test.YtckgoedlgecokaaGreatDoorCg15
import Derived.Test.YtckgoedlgecokaaGreatDoorCg14
namespace Go.Proofs.YtckgoedlgecokaaGreatDoor
open Go.RowKit

/-- A node's block of its own. -/
structure R7 (w : World) (N : Nat) (k x : V) : Prop where
  c0 : w.cell? ⟨N, 0, none⟩ = some (.int .i64 k.1)
  c1 : w.cell? ⟨N, 1, none⟩ = some (.int .i64 k.2.1)
  c2 : w.cell? ⟨N, 2, none⟩ = some (.string k.2.2)
  c3 : w.cell? ⟨N, 3, none⟩ = some (.int .i64 x.1)
  c4 : w.cell? ⟨N, 4, none⟩ = some (.int .i64 x.2.1)
  c5 : w.cell? ⟨N, 5, none⟩ = some (.string x.2.2)
  c6 : ∃ l : Int, w.cell? ⟨N, 6, none⟩ = some (.int .i64 l)
  fz : ∀ j, w.frozen? ⟨N, j, none⟩ = false
  lt : N < w.heap.size
theorem R7.kept {No : Nat → Prop} {w w' : World} {N : Nat} {k x : V} (h : R7 w N k x) (q : Keep No w w') (hn : No N) : R7 w' N k x := by
  have e := q.block N h.lt hn
  obtain ⟨l, hl⟩ := h.c6
  exact ⟨by rw [World.cell?_of_block (w := w) e]; exact h.c0, by rw [World.cell?_of_block (w := w) e]; exact h.c1, by rw [World.cell?_of_block (w := w) e]; exact h.c2, by rw [World.cell?_of_block (w := w) e]; exact h.c3, by rw [World.cell?_of_block (w := w) e]; exact h.c4, by rw [World.cell?_of_block (w := w) e]; exact h.c5, ⟨l, by rw [World.cell?_of_block (w := w) e]; exact hl⟩, fun j => by rw [World.frozen?_of_block (w := w) e]; exact h.fz j, Nat.lt_of_lt_of_le h.lt q.size⟩
theorem R7.below {w w' : World} {N : Nat} {k x : V} (h : R7 w N k x) (q : Below w.heap.size w w') : R7 w' N k x := h.kept (No := fun _ => True) (Keep.of q) trivial
theorem R7.made (w : World) (k x : V) (l : Int) : R7 (w.alloc (.cells #[.int .i64 k.1, .int .i64 k.2.1, .string k.2.2, .int .i64 x.1, .int .i64 x.2.1, .string x.2.2, .int .i64 l] 116)) w.heap.size k x := by
  have h := (MapKept.heap_alloc w (.cells #[.int .i64 k.1, .int .i64 k.2.1, .string k.2.2, .int .i64 x.1, .int .i64 x.2.1, .string x.2.2, .int .i64 l] 116)).1
  exact ⟨cell_of_row h 0, cell_of_row h 1, cell_of_row h 2, cell_of_row h 3, cell_of_row h 4, cell_of_row h 5, ⟨l, cell_of_row h 6⟩, fun j => new_free w _ _ j, by simp⟩
abbrev set7b (w : World) (N : Nat) (k x : V) (l : Int) : World := ((((((w.setCell ⟨N, 0, none⟩ (.int .i64 k.1)).setCell ⟨N, 1, none⟩ (.int .i64 k.2.1)).setCell ⟨N, 2, none⟩ (.string k.2.2)).setCell ⟨N, 3, none⟩ (.int .i64 x.1)).setCell ⟨N, 4, none⟩ (.int .i64 x.2.1)).setCell ⟨N, 5, none⟩ (.string x.2.2)).setCell ⟨N, 6, none⟩ (.int .i64 l)
theorem R7.set {w : World} {N : Nat} {k0 x0 : V} (h : R7 w N k0 x0) (k x : V) (l : Int) : R7 (set7b w N k x l) N k x := by
  have ne : ∀ (i j : Nat) (W : World) (v : Value), i ≠ j → (W.setCell ⟨N, i, none⟩ v).cell? ⟨N, j, none⟩ = W.cell? ⟨N, j, none⟩ := fun i j W v hij => World.cell?_setCell_other _ _ _ _ (fun q => by injection q with _ q2; omega)
  obtain ⟨l0, h6⟩ := h.c6
  refine ⟨?_, ?_, ?_, ?_, ?_, ?_, ⟨l, ?_⟩, fun j => by simpa using h.fz j, by simpa [World.setCell] using h.lt⟩
  · rw [ne 6 0 _ _ (by omega), ne 5 0 _ _ (by omega), ne 4 0 _ _ (by omega), ne 3 0 _ _ (by omega), ne 2 0 _ _ (by omega), ne 1 0 _ _ (by omega)]; exact World.cell?_setCell_same _ _ _ h.c0
  · rw [ne 6 1 _ _ (by omega), ne 5 1 _ _ (by omega), ne 4 1 _ _ (by omega), ne 3 1 _ _ (by omega), ne 2 1 _ _ (by omega)]; exact World.cell?_setCell_same _ _ _ (by rw [ne 0 1 _ _ (by omega)]; exact h.c1)
  · rw [ne 6 2 _ _ (by omega), ne 5 2 _ _ (by omega), ne 4 2 _ _ (by omega), ne 3 2 _ _ (by omega)]; exact World.cell?_setCell_same _ _ _ (by rw [ne 1 2 _ _ (by omega), ne 0 2 _ _ (by omega)]; exact h.c2)
  · rw [ne 6 3 _ _ (by omega), ne 5 3 _ _ (by omega), ne 4 3 _ _ (by omega)]; exact World.cell?_setCell_same _ _ _ (by rw [ne 2 3 _ _ (by omega), ne 1 3 _ _ (by omega), ne 0 3 _ _ (by omega)]; exact h.c3)
  · rw [ne 6 4 _ _ (by omega), ne 5 4 _ _ (by omega)]; exact World.cell?_setCell_same _ _ _ (by rw [ne 3 4 _ _ (by omega), ne 2 4 _ _ (by omega), ne 1 4 _ _ (by omega), ne 0 4 _ _ (by omega)]; exact h.c4)
  · rw [ne 6 5 _ _ (by omega)]; exact World.cell?_setCell_same _ _ _ (by rw [ne 4 5 _ _ (by omega), ne 3 5 _ _ (by omega), ne 2 5 _ _ (by omega), ne 1 5 _ _ (by omega), ne 0 5 _ _ (by omega)]; exact h.c5)
  · exact World.cell?_setCell_same _ _ _ (by rw [ne 5 6 _ _ (by omega), ne 4 6 _ _ (by omega), ne 3 6 _ _ (by omega), ne 2 6 _ _ (by omega), ne 1 6 _ _ (by omega), ne 0 6 _ _ (by omega)]; exact h6)

/-- Behind At: a node in a block of its own. -/
structure Px (w W : World) (N vx : Nat) (k x : V) : Prop where
  r7 : R7 W vx k x
  r0 : R3 W N nil
  r1 : R3 W (N + 1) nil
  bel : Below N w W
  ge : N + 2 ≤ vx
set_option maxRecDepth 20000 in
set_option maxHeartbeats 1500000 in
theorem pair_out {w : World} {T A b a S : Nat} {t : TS} (h : Tm w T A b a S t) (hn : t.p.n ≤ 65536) (hz : t.p.z ≤ 65536) (j : Nat) (hj : j < t.p.z) :
    Calls Tryz.prog 63 #[tp T, .int .i64 ((t.p.n : Int) + 1 + j)] w fun e w' => e = .returned (.tuple #[vv (t.p.g.K j), vv (t.p.g.X j)]) ∧ Below w.heap.size w w' := by
  have R0 := (R3.made w nil).below (b1 _ (vb 0 0 ⟨#[]⟩))
  have R1 := R3.made (w.alloc (vb 0 0 ⟨#[]⟩)) nil
  have eX : (w.alloc (vb 0 0 ⟨#[]⟩)).heap.size = w.heap.size + 1 := by simp
  rw [eX] at R1
  have B0 := b2 w (vb 0 0 ⟨#[]⟩) (vb 0 0 ⟨#[]⟩)
  have R0' : R3 ((w.alloc (vb 0 0 ⟨#[]⟩)).alloc (vb 0 0 ⟨#[]⟩)) w.heap.size nil := R0
  have R1' : R3 ((w.alloc (vb 0 0 ⟨#[]⟩)).alloc (vb 0 0 ⟨#[]⟩)) (w.heap.size + 1) nil := R1
  have eS : ((w.alloc (vb 0 0 ⟨#[]⟩)).alloc (vb 0 0 ⟨#[]⟩)).heap.size = w.heap.size + 2 := by simp
  obtain ⟨W0, hW0⟩ : ∃ W0, (w.alloc (vb 0 0 ⟨#[]⟩)).alloc (vb 0 0 ⟨#[]⟩) = W0 := ⟨_, rfl⟩
  rw [hW0] at B0 R0' R1' eS
  have h0 := h.below B0
  have CA := fun W (hW : Below W0.heap.size W0 W) => at_in j W (h0.pm.pt.below hW) hj
  have c1 : W0.cell? ⟨T, 1, none⟩ = some (.slice (some ⟨A, 0, none⟩) t.p.n t.p.n) := h0.pm.c0
  have c2 : W0.cell? ⟨T, 2, none⟩ = some (.pointer (some ⟨b, 0, none⟩)) := h0.pm.c1
  generalize link (pl t.p.z) t.p.g j = l at *
  generalize t.p.g.K j = k at *
  generalize t.p.g.X j = x at *
  have HG1 : Hid (∀ w3, Below W0.heap.size W0 w3 → Px w (w3.alloc (.cells #[.int .i64 k.1, .int .i64 k.2.1, .string k.2.2, .int .i64 x.1, .int .i64 x.2.1, .string x.2.2, .int .i64 l] 116)) w.heap.size w3.heap.size k x) := fun w3 b3 => by
    have bb := bthen b3 b3.size (b1 w3 (.cells #[.int .i64 k.1, .int .i64 k.2.1, .string k.2.2, .int .i64 x.1, .int .i64 x.2.1, .string x.2.2, .int .i64 l] 116))
    exact ⟨R7.made w3 k x l, R0'.below bb, R1'.below bb, bthen B0 B0.size bb, by have := b3.size; omega⟩
  have HG2 : Hid (∀ w3, Below W0.heap.size W0 w3 → R7 w3 W0.heap.size nil nil → Px w (set7b w3 W0.heap.size k x l) w.heap.size W0.heap.size k x) := fun w3 b3 r3 => by
    have bb : Below W0.heap.size W0 (set7b w3 W0.heap.size k x l) := ((((((b3.setCell (Nat.le_refl _) _).setCell (Nat.le_refl _) _).setCell (Nat.le_refl _) _).setCell (Nat.le_refl _) _).setCell (Nat.le_refl _) _).setCell (Nat.le_refl _) _).setCell (Nat.le_refl _) _
    exact ⟨r3.set k x l, R0'.below bb, R1'.below bb, bthen B0 B0.size bb, by omega⟩
  have BA := bthen (bdrew1 W0) (Nat.le_refl _) (b1 W0.drew (.cells #[.int .i64 0, .int .i64 0, .string ⟨#[]⟩, .int .i64 0, .int .i64 0, .string ⟨#[]⟩, .int .i64 0] 116))
  have RA : R7 (W0.drew.alloc (.cells #[.int .i64 0, .int .i64 0, .string ⟨#[]⟩, .int .i64 0, .int .i64 0, .string ⟨#[]⟩, .int .i64 0] 116)) W0.heap.size nil nil := R7.made W0.drew nil nil 0
  obtain ⟨Wa, hWa⟩ : ∃ Wa, W0.drew.alloc (.cells #[.int .i64 0, .int .i64 0, .string ⟨#[]⟩, .int .i64 0, .int .i64 0, .string ⟨#[]⟩, .int .i64 0] 116) = Wa := ⟨_, rfl⟩
  rw [hWa] at BA RA
  have z1 : Wa.cell? ⟨T, 1, none⟩ = some (.slice (some ⟨A, 0, none⟩) t.p.n t.p.n) := (h0.below BA).pm.c0
  have z2 : Wa.cell? ⟨T, 2, none⟩ = some (.pointer (some ⟨b, 0, none⟩)) := (h0.below BA).pm.c1
  have CFd := (CA W0.drew (bdrew1 _)).mono (R' := fun e w' => e = .returned (vn k x l) ∧ Hid (Below W0.heap.size W0 w')) fun _ _ hh => ⟨hh.1, bthen (bdrew1 W0) (Nat.le_refl _) hh.2⟩
  have CFa := (CA Wa BA).mono (R' := fun e w' => e = .returned (vn k x l) ∧ Hid (Below W0.heap.size W0 w') ∧ R7 w' W0.heap.size nil nil) fun _ _ hh => ⟨hh.1, bthen BA BA.size hh.2, RA.below hh.2⟩
  clear h h0 R0 R1 R0' R1' B0 eX CA BA RA eS
  unfold vb at hW0
  unfold vv vl tp at *
  unfold pp vn at CFd CFa
  generalize t.p.z = z at *
  generalize t.p.n = n at *
  generalize hsz : w.heap.size = N at *
  have hj1 : ¬ ((n : Int) + 1 + (j : Int) < 1) := by omega
  have hj2 : ¬ ((n : Int) + 1 + (j : Int) ≤ (n : Int)) := by omega
  have hw0 : IntKind.i64.wrap ((n : Int) + 1 + (j : Int) - (n : Int)) = (j : Int) + 1 := by rw [IntKind.wrap_i64]; omega
  have hw1 : IntKind.i64.wrap ((j : Int) + 1 - 1) = (j : Int) := by rw [IntKind.wrap_i64]; omega
  have hw2 : IntKind.i64.wrap (j : Int) = (j : Int) := by rw [IntKind.wrap_i64]; omega
  generalize hm : (n : Int) + 1 + (j : Int) = m at *
  go_enter Tryz.func63, Tryz.ntmps63
  go_upto_region 5 with fail
  go_cut [6] from 34 to 48 (fun bw wx => ∃ vx : Nat, bw = .pointer (some ⟨vx, 0, none⟩) ∧ Hid (Px w wx N vx k x))
  case first =>
    go_region_with (first
      | (go_at_call 60; refine CFd.mono ?_; rintro e w3 ⟨rfl, hB3⟩; have HPX : Hid _ := HG1.out w3 hB3.out; obtain ⟨W8, hW8⟩ : ∃ W8, w3.alloc (.cells #[.int .i64 k.1, .int .i64 k.2.1, .string k.2.2, .int .i64 x.1, .int .i64 x.2.1, .string x.2.2, .int .i64 l] 116) = W8 := ⟨_, rfl⟩; rw [hW8] at HPX)
      | (go_at_call 60; refine CFa.mono ?_; rintro e w3 ⟨rfl, hB3, q3⟩; have q0 : w3.cell? ⟨W0.heap.size, 0, none⟩ = some (.int .i64 0) := q3.c0; have q1 : w3.cell? ⟨W0.heap.size, 1, none⟩ = some (.int .i64 0) := q3.c1; have q2 : w3.cell? ⟨W0.heap.size, 2, none⟩ = some (.string ⟨#[]⟩) := q3.c2; have q4 : w3.cell? ⟨W0.heap.size, 3, none⟩ = some (.int .i64 0) := q3.c3; have q5 : w3.cell? ⟨W0.heap.size, 4, none⟩ = some (.int .i64 0) := q3.c4; have q6 : w3.cell? ⟨W0.heap.size, 5, none⟩ = some (.string ⟨#[]⟩) := q3.c5; obtain ⟨l0, q7⟩ := q3.c6; have qf : ∀ j, w3.frozen? ⟨W0.heap.size, j, none⟩ = false := q3.fz; have HPX : Hid _ := HG2.out w3 hB3.out q3; obtain ⟨W8, hW8⟩ : ∃ W8, set7b w3 W0.heap.size k x l = W8 := ⟨_, rfl⟩; rw [hW8] at HPX; unfold set7b at hW8; clear q3))
    all_goals
      go_wp2_with fail
      go_meet
      exact ⟨_, rfl, HPX⟩
  case rest =>
    obtain ⟨vx, rfl, HX⟩ := hcut
    clear CFd CFa HG1 HG2 z1 z2 hWa c1 c2 hW0
    have x0 := HX.out.r7.c0
    have x1 := HX.out.r7.c1
    have x2 := HX.out.r7.c2
    have x3 := HX.out.r7.c3
    have x4 := HX.out.r7.c4
    have x5 := HX.out.r7.c5
    have n0 := HX.out.r0.bx.c0
    have n1 := HX.out.r0.bx.c1
    have n2 := HX.out.r0.bx.c2
    have nf := HX.out.r0.fz
    have HD : Px w wc N vx k x := HX.out
    have g0 := HD.r1.bx.c0
    have g1 := HD.r1.bx.c1
    have g2 := HD.r1.bx.c2
    have gf := HD.r1.fz
    have kN : Keep (fun g => g ≠ N) wc (set3 wc N k) := (Keep.refl _ _).set3 (fun q => q rfl) k
    have r1 := HD.r1.kept kN (by show N + 1 ≠ N; omega)
    have r7 := HD.r7.kept kN (by have := HX.out.ge; show vx ≠ N; omega)
    have pp2 := P2.mk2 HD.bel HD.r0 HD.r1 k x
    obtain ⟨W2, hW2⟩ : ∃ W2, set3 wc N k = W2 := ⟨_, rfl⟩
    rw [hW2] at r1 r7 pp2
    obtain ⟨W3, hW3⟩ : ∃ W3, set3 W2 (N + 1) x = W3 := ⟨_, rfl⟩
    rw [hW3] at pp2
    unfold set3 at hW2 hW3
    have m0 := r1.bx.c0
    have m1 := r1.bx.c1
    have m2 := r1.bx.c2
    have mf := r1.fz
    have y0 := r7.c0
    have y1 := r7.c1
    have y2 := r7.c2
    have y3 := r7.c3
    have y4 := r7.c4
    have y5 := r7.c5
    have HP : Hid (P2 w W3 N k x) := pp2
    clear r1 r7 kN pp2 HD
    go_wp2_with fail
    go_region
    all_goals
      go_wp2_with fail
      have v0 := HP.out.r0.c0
      have v1 := HP.out.r0.c1
      have v2 := HP.out.r0.c2
      have v3 := HP.out.r1.c0
      have v4 := HP.out.r1.c1
      have v5 := HP.out.r1.c2
      refine bodyPost_ret (v := .tuple #[.agg #[.int .i64 k.1, .int .i64 k.2.1, .string k.2.2], .agg #[.int .i64 x.1, .int .i64 x.2.1, .string x.2.2]]) (by simp [results, Tryz.results63, go_sem, v0, v1, v2, v3, v4, v5]) rfl ⟨rfl, by first | exact HP.out.bel | exact HP.out.bel.trans (bdrew _ _ 1) | exact HP.out.bel.trans ⟨rfl, rfl, rfl, Nat.le_refl _, fun _ _ => rfl⟩⟩
end Go.Proofs.YtckgoedlgecokaaGreatDoor

/- The walks of both Hints. The great seat's numbers. -/
namespace Go.Proofs.YtckgoedlgecokaaGreatDoor
open Go.RowKit
theorem TT.hint {No : Nat → Prop} {w : World} {T A b a S hb c : Nat} {t : TS} {s : H.St} (h : TT No w T A b a S hb c t s) (r : Int) : TT No (w.setCell ⟨T, 5, none⟩ (.int .i64 r)) T A b a S hb (c + 1) { t with hint := r } s ∧ Keep No w (w.setCell ⟨T, 5, none⟩ (.int .i64 r)) := by
  obtain ⟨vb, hq⟩ := h.hp
  have k : Keep (fun x => x ≠ T) w (w.setCell ⟨T, 5, none⟩ (.int .i64 r)) := (Keep.refl _ w).set (p := ⟨T, 5, none⟩) (fun q => q rfl) _
  have ne : ∀ j, 5 ≠ j → (w.setCell ⟨T, 5, none⟩ (.int .i64 r)).cell? ⟨T, j, none⟩ = w.cell? ⟨T, j, none⟩ := fun j hij => World.cell?_setCell_other _ _ _ _ (fun q => by injection q with _ q2; omega)
  have M := h.tm.pm
  have eA := k.block A M.ltA M.nAB
  have p1 := h.p1
  have p0 := h.p0
  refine ⟨⟨⟨⟨by rw [ne 1 (by omega)]; exact M.c0, by rw [ne 2 (by omega)]; exact M.c1, by rw [ne 3 (by omega)]; exact M.c2, by rw [ne 4 (by omega)]; exact M.c3, M.sl.block eA, fun j => by rw [World.frozen?_of_block (w := w) eA]; exact M.fA j, Nat.lt_of_lt_of_le M.ltA k.size, Nat.lt_of_lt_of_le M.ltB k.size, M.pt.kept k (fun e => M.nBb e.symm) (fun e => M.nBa e.symm), M.nAB, M.nAb, M.nAa, M.nBb, M.nBa⟩,
    by rw [ne 0 (by omega)]; exact h.tm.c0, World.cell?_setCell_same _ _ _ h.tm.c5, by rw [ne 6 (by omega)]; exact h.tm.c6, fun j => by rw [World.frozen?_setCell]; exact h.tm.fz j⟩, ⟨vb, (hq.sets T 5 _ (.inr (.inl rfl))).more (by omega)⟩, h.nT, h.nA, h.nb, h.na, h.ti, h.iv, p0, by show t.pr ≤ _; omega⟩, (Keep.refl No w).set (p := ⟨T, 5, none⟩) h.nT _⟩
def tHint (t : TS) (n : Int) : TS := if 0 ≤ n ∧ n ≤ (t.p.n : Int) then { t with hint := n } else t
set_option maxRecDepth 20000 in
set_option maxHeartbeats 2000000 in
theorem hint_any {No : Nat → Prop} {w : World} {T A b a S hb c : Nat} {t : TS} {s : H.St} (h : TT No w T A b a S hb c t s) (n : Int) :
    Calls Tryz.prog 48 #[tp T, .int .i64 n] w fun e w' => e = .returned (.tuple #[]) ∧ TT No w' T A b a S hb (c + 1) (tHint t n) s ∧ Keep No w w' := by
  have c0 : w.cell? ⟨T, 1, none⟩ = some (.slice (some ⟨A, 0, none⟩) t.p.n t.p.n) := h.tm.pm.c0
  have c4 := h.tm.c5
  have fz := h.tm.fz
  have HH : Hid (TT No w T A b a S hb (c + 1) t s) := h.more (by omega)
  have HS : Hid (TT No (w.setCell ⟨T, 5, none⟩ (.int .i64 n)) T A b a S hb (c + 1) { t with hint := n } s ∧ Keep No w (w.setCell ⟨T, 5, none⟩ (.int .i64 n))) := h.hint n
  unfold tHint tp
  clear h
  by_cases h0 : 0 ≤ n
  · by_cases h1 : n ≤ (t.p.n : Int)
    · rw [if_pos ⟨h0, h1⟩]
      have g0 : decide (0 ≤ n) = true := by simp [h0]
      have g1 : decide (n ≤ (t.p.n : Int)) = true := by simp [h1]
      go_enter Tryz.func48, Tryz.ntmps48
      go_wp2_with fail
      go_end0
      exact ⟨rfl, HS.out⟩
    · rw [if_neg (fun q => h1 q.2)]
      have g0 : decide (0 ≤ n) = true := by simp [h0]
      have g1 : decide (n ≤ (t.p.n : Int)) = false := by simp [h1]
      go_enter Tryz.func48, Tryz.ntmps48
      go_wp2_with fail
      go_end0
      exact ⟨rfl, HH.out, Keep.refl _ _⟩
  · rw [if_neg (fun q => h0 q.1)]
    have g0 : decide (0 ≤ n) = false := by simp [h0]
    go_enter Tryz.func48, Tryz.ntmps48
    go_wp2_with fail
    go_end0
    exact ⟨rfl, HH.out, Keep.refl _ _⟩
end Go.Proofs.YtckgoedlgecokaaGreatDoor

/- The walks of Pair and Hint. -/
namespace Go.Proofs.YtckgoedlgecokaaGreatDoor
open Go.RowKit

/-- What Pair answers. -/
def prO (p : Pa) (i : Int) : V × V :=
  if i < 1 then (nil, nil) else if i ≤ (p.n : Int) then (kn i, p.F (i.toNat - 1))
  else if i - p.n - 1 < (p.z : Int) then (p.g.K (i.toNat - p.n - 1), p.g.X (i.toNat - p.n - 1)) else (nil, nil)
theorem pair_at {w : World} {T A b a S : Nat} {t : TS} (h : Tm w T A b a S t) (hn : t.p.n ≤ 65536) (hz : t.p.z ≤ 65536) (i : Int) (h0 : 1 ≤ i) (h1 : i ≤ ((t.p.n + t.p.z : Nat) : Int)) :
    Calls Tryz.prog 63 #[tp T, .int .i64 i] w fun e w' => e = .returned (.tuple #[vv (prO t.p i).1, vv (prO t.p i).2]) ∧ Below w.heap.size w w' := by
  by_cases q : i ≤ (t.p.n : Int)
  · obtain ⟨j, rfl⟩ : ∃ j : Nat, i = (j : Int) + 1 := ⟨(i - 1).toNat, by omega⟩
    have e : prO t.p ((j : Int) + 1) = (kn ((j : Int) + 1), t.p.F j) := by
      unfold prO
      rw [if_neg (by omega), if_pos q]
      have : ((j : Int) + 1).toNat - 1 = j := by omega
      rw [this]
    rw [e]
    exact pair_in h hn j (by omega)
  · obtain ⟨j, hj, rfl⟩ : ∃ j : Nat, j < t.p.z ∧ i = (t.p.n : Int) + 1 + j := ⟨(i - t.p.n - 1).toNat, by omega, by omega⟩
    have e : prO t.p ((t.p.n : Int) + 1 + j) = (t.p.g.K j, t.p.g.X j) := by
      unfold prO
      rw [if_neg (by omega), if_neg q, if_pos (by omega)]
      have : ((t.p.n : Int) + 1 + j).toNat - t.p.n - 1 = j := by omega
      rw [this]
    rw [e]
    exact pair_out h hn hz j hj
end Go.Proofs.YtckgoedlgecokaaGreatDoor

/- The pure part of the border: halving, doubling; what Len and Is answer, and that it is a border. -/
namespace Go.Proofs.YtckgoedlgecokaaGreatDoor
open Go.RowKit

/-- Halving: the answer, and what was read for it. -/
def hlv (P : Int → Bool) (rd : Int → Nat) : Nat → Int → Int → Int × Nat
  | 0, l, _ => (l, 0)
  | f + 1, l, h => if h - l > 1 then
      if P (l + (h - l) / 2) then ((hlv P rd f (l + (h - l) / 2) h).1, (hlv P rd f (l + (h - l) / 2) h).2 + rd (l + (h - l) / 2))
      else ((hlv P rd f l (l + (h - l) / 2)).1, (hlv P rd f l (l + (h - l) / 2)).2 + rd (l + (h - l) / 2))
    else (l, 0)
theorem hlv_ok (P : Int → Bool) (rd : Int → Nat) : ∀ (f : Nat) (l h : Int), l < h → h - l ≤ 2 ^ f → P h = false →
    l ≤ (hlv P rd f l h).1 ∧ (hlv P rd f l h).1 < h ∧ ((hlv P rd f l h).1 = l ∨ P (hlv P rd f l h).1 = true) ∧ P ((hlv P rd f l h).1 + 1) = false
  | 0, l, h, h0, h1, h2 => by
    have e : h = l + 1 := by omega
    subst e
    exact ⟨by simp [hlv], h0, .inl rfl, h2⟩
  | f + 1, l, h, h0, h1, h2 => by
    rw [hlv]
    by_cases q : h - l > 1
    · rw [if_pos q]
      have hp : (2 : Int) ^ (f + 1) = 2 * 2 ^ f := by rw [Int.pow_succ]; omega
      by_cases e : P (l + (h - l) / 2) = true
      · rw [if_pos e]
        obtain ⟨a, b, c, d⟩ := hlv_ok P rd f (l + (h - l) / 2) h (by omega) (by omega) h2
        refine ⟨by simp only; omega, b, ?_, d⟩
        rcases c with c | c
        · exact .inr (by rw [c]; exact e)
        · exact .inr c
      · rw [if_neg e]
        obtain ⟨a, b, c, d⟩ := hlv_ok P rd f l (l + (h - l) / 2) (by omega) (by omega) (by simpa using e)
        exact ⟨a, by simp only; omega, c, d⟩
    · rw [if_neg q]
      have e : h = l + 1 := by omega
      subst e
      exact ⟨by simp, h0, .inl rfl, h2⟩
theorem hlv_rd (P : Int → Bool) (rd : Int → Nat) (B : Nat) (hB : ∀ m, rd m ≤ B) : ∀ (f : Nat) (l h : Int), (hlv P rd f l h).2 ≤ f * B
  | 0, l, h => by simp [hlv]
  | f + 1, l, h => by
    rw [hlv]
    have := hB (l + (h - l) / 2)
    have h1 := hlv_rd P rd B hB f (l + (h - l) / 2) h
    have h2 := hlv_rd P rd B hB f l (l + (h - l) / 2)
    have h3 : (f + 1) * B = f * B + B := by rw [Nat.add_mul]; omega
    split
    · split <;> simp only <;> omega
    · simp
/-- 2 * h, or the greatest number. -/
def tw (h : Int) : Int := if h > 4611686018427387903 then (9223372036854775807 : Int) else 2 * h
/-- Doubling: low, high, what was read. -/
def dbl (P : Int → Bool) (rd : Int → Nat) : Nat → Int → Int → Int × Int × Nat
  | 0, l, h => (l, h, 0)
  | f + 1, l, h => if P h then (if h = (9223372036854775807 : Int) then ((9223372036854775807 : Int), (9223372036854775807 : Int), rd h) else ((dbl P rd f h (tw h)).1, (dbl P rd f h (tw h)).2.1, (dbl P rd f h (tw h)).2.2 + rd h)) else (l, h, rd h)
theorem tw_ok {f : Nat} {h : Int} (h0 : 1 ≤ h) (hm : h ≠ (9223372036854775807 : Int)) (hx : h ≤ (9223372036854775807 : Int)) (hf : (9223372036854775807 : Int) < h * 2 ^ f) : ∃ g, f = g + 1 ∧ h < tw h ∧ tw h ≤ (9223372036854775807 : Int) ∧ (tw h = (9223372036854775807 : Int) ∨ (9223372036854775807 : Int) < tw h * 2 ^ g) := by
  cases f with
  | zero => simp at hf; omega
  | succ g =>
    refine ⟨g, rfl, ?_⟩
    unfold tw
    split
    · exact ⟨by omega, by omega, .inl rfl⟩
    · refine ⟨by omega, by omega, .inr ?_⟩
      rw [Int.pow_succ] at hf
      have e : h * (2 ^ g * 2) = 2 * h * 2 ^ g := by rw [Int.mul_comm (2 ^ g) 2, ← Int.mul_assoc, Int.mul_comm h 2]
      rw [← e]; exact hf
theorem dbl_ok (P : Int → Bool) (rd : Int → Nat) : ∀ (f : Nat) (l h : Int), 1 ≤ l → l < h ∨ (l = h ∧ h = (9223372036854775807 : Int)) → h ≤ (9223372036854775807 : Int) → P l = true → (h = (9223372036854775807 : Int) ∨ (9223372036854775807 : Int) < h * 2 ^ f) →
    l ≤ (dbl P rd (f + 1) l h).1 ∧ P (dbl P rd (f + 1) l h).1 = true ∧ (((dbl P rd (f + 1) l h).1 = (9223372036854775807 : Int) ∧ (dbl P rd (f + 1) l h).2.1 = (9223372036854775807 : Int)) ∨
      ((dbl P rd (f + 1) l h).1 < (dbl P rd (f + 1) l h).2.1 ∧ (dbl P rd (f + 1) l h).2.1 ≤ (9223372036854775807 : Int) ∧ P (dbl P rd (f + 1) l h).2.1 = false))
  | f, l, h, h0, h1, h2, h3, h4 => by
    rw [dbl]
    by_cases e : P h = true
    · rw [if_pos e]
      by_cases q : h = (9223372036854775807 : Int)
      · rw [if_pos q]
        subst q
        exact ⟨by simp only; omega, e, .inl ⟨rfl, rfl⟩⟩
      · rw [if_neg q]
        have hl : l < h := by omega
        obtain ⟨g, rfl, a, b, c⟩ := tw_ok (f := f) (h := h) (by omega) q h2 (by omega)
        obtain ⟨x, y, z⟩ := dbl_ok P rd g h (tw h) (by omega) (.inl a) b e c
        exact ⟨by simp only; omega, y, z⟩
    · rw [if_neg e]
      have e' : P h = false := by simpa using e
      refine ⟨Int.le_refl _, h3, .inr ⟨?_, h2, e'⟩⟩
      rcases h1 with h1 | ⟨h1, _⟩
      · exact h1
      · rw [h1, e'] at h3; cases h3
theorem dbl_rd (P : Int → Bool) (rd : Int → Nat) (B : Nat) (hB : ∀ m, rd m ≤ B) : ∀ (f : Nat) (l h : Int), (dbl P rd f l h).2.2 ≤ f * B
  | 0, l, h => by simp [dbl]
  | f + 1, l, h => by
    rw [dbl]
    have := hB h
    have h1 := dbl_rd P rd B hB f h (tw h)
    have h3 : (f + 1) * B = f * B + B := by rw [Nat.add_mul]; omega
    split
    · split <;> simp only <;> omega
    · simp only; omega

def sl (p : Pa) (i : Int) : Bool := decide ((prO p i).2.1 ≠ 0)
def hs (p : Pa) (i : Int) : Bool := decide ((pget p (kn i)).1 ≠ 0)
def rdn (p : Pa) (i : Int) : Nat := prd p (kn i)
def inAr (t : TS) : Int :=
  if t.hint > 0 ∧ sl t.p t.hint = false then (hlv (sl t.p) (fun _ => 0) 64 0 t.hint).1
  else if sl t.p (t.hint + 1) = false then t.hint else (hlv (sl t.p) (fun _ => 0) 64 t.hint t.p.n).1
def beh (p : Pa) : Int × Nat :=
  if hs p (p.n + 1) = false then (p.n, rdn p (p.n + 1))
  else ((hlv (hs p) (rdn p) 64 (dbl (hs p) (rdn p) 64 (p.n + 1) (2 * (p.n + 1))).1 (dbl (hs p) (rdn p) 64 (p.n + 1) (2 * (p.n + 1))).2.1).1,
    rdn p (p.n + 1) + (dbl (hs p) (rdn p) 64 (p.n + 1) (2 * (p.n + 1))).2.2 + (hlv (hs p) (rdn p) 64 (dbl (hs p) (rdn p) 64 (p.n + 1) (2 * (p.n + 1))).1 (dbl (hs p) (rdn p) 64 (p.n + 1) (2 * (p.n + 1))).2.1).2)
/-- What Len answers, and the table behind it. -/
def blen (t : TS) : Int × TS :=
  if t.p.n ≠ 0 ∧ sl t.p t.p.n = false then (inAr t, tHint t (inAr t))
  else ((beh t.p).1, { t with pr := t.pr + ((beh t.p).2 : Nat) })
def bis (t : TS) (n : Int) : Bool × TS :=
  if n < 0 then (false, t)
  else if n > 0 ∧ hs t.p n = false then (false, { t with pr := t.pr + (rdn t.p n : Nat) })
  else if n = (9223372036854775807 : Int) then (true, { t with pr := t.pr + ((if n > 0 then rdn t.p n else 0 : Nat) : Nat) })
  else (!hs t.p (n + 1), { t with pr := t.pr + ((if n > 0 then rdn t.p n else 0 : Nat) : Nat) + (rdn t.p (n + 1) : Nat) })
/-- A border. -/
def Bd (p : Pa) (n : Int) : Prop := 0 ≤ n ∧ n ≤ (9223372036854775807 : Int) ∧ (n = 0 ∨ hs p n = true) ∧ (n = (9223372036854775807 : Int) ∨ hs p (n + 1) = false)
theorem sl_hs {p : Pa} (h : TI p) {i : Int} (h0 : 1 ≤ i) (h1 : i ≤ (p.n : Int)) : hs p i = sl p i := by
  obtain ⟨j, rfl⟩ : ∃ j : Nat, i = (j : Int) + 1 := ⟨(i - 1).toNat, by omega⟩
  have e := h.get_slot (i := j) (by omega)
  unfold hs sl prO
  rw [e, if_neg (by omega), if_pos h1]
  have : ((j : Int) + 1).toNat - 1 = j := by omega
  rw [this]
theorem inAr_ok {t : TS} (h : TI t.p) (hh : 0 ≤ t.hint ∧ t.hint ≤ (t.p.n : Int)) (h0 : t.p.n ≠ 0) (hn : sl t.p t.p.n = false) :
    0 ≤ inAr t ∧ inAr t < t.p.n ∧ (inAr t = 0 ∨ sl t.p (inAr t) = true) ∧ sl t.p (inAr t + 1) = false := by
  have hle := h.le
  unfold inAr
  by_cases e : t.hint > 0 ∧ sl t.p t.hint = false
  · rw [if_pos e]
    obtain ⟨a, b, c, d⟩ := hlv_ok (sl t.p) (fun _ => 0) 64 0 t.hint e.1 (by omega) e.2
    exact ⟨a, by omega, c, d⟩
  · rw [if_neg e]
    by_cases e2 : sl t.p (t.hint + 1) = false
    · rw [if_pos e2]
      have hs0 : t.hint = 0 ∨ sl t.p t.hint = true := by
        by_cases q : t.hint = 0
        · exact .inl q
        · right; cases hq : sl t.p t.hint with
          | true => rfl
          | false => exact absurd ⟨by omega, hq⟩ e
      refine ⟨hh.1, ?_, hs0, e2⟩
      rcases hs0 with q | q
      · omega
      · by_cases r : t.hint = t.p.n
        · rw [r, hn] at q; cases q
        · omega
    · rw [if_neg e2]
      have hlt : t.hint < t.p.n := by
        by_cases r : t.hint = t.p.n
        · exact absurd ⟨by omega, by rw [r]; exact hn⟩ e
        · omega
      obtain ⟨a, b, c, d⟩ := hlv_ok (sl t.p) (fun _ => 0) 64 t.hint t.p.n hlt (by omega) hn
      refine ⟨by omega, b, ?_, d⟩
      rcases c with c | c
      · rw [c]
        by_cases q : t.hint = 0
        · exact .inl q
        · right; cases hq : sl t.p t.hint with
          | true => rfl
          | false => exact absurd ⟨by omega, hq⟩ e
      · exact .inr c
theorem beh_ok {p : Pa} (h : TI p) (hn : p.n = 0 ∨ sl p p.n = true) : Bd p (beh p).1 ∧ (p.n : Int) ≤ (beh p).1 := by
  have hle := h.le
  unfold beh
  by_cases e : hs p (p.n + 1) = false
  · rw [if_pos e]
    refine ⟨⟨by simp only; omega, by simp only; omega, ?_, .inr e⟩, Int.le_refl _⟩
    rcases hn with q | q
    · exact .inl (by simp only; omega)
    · by_cases z : p.n = 0
      · exact .inl (by simp only; omega)
      · exact .inr (by rw [sl_hs h (by simp only; omega) (by simp only; omega)]; exact q)
  · rw [if_neg e]
    have e' : hs p (p.n + 1) = true := by simpa using e
    obtain ⟨a, b, c⟩ := dbl_ok (hs p) (rdn p) 63 (p.n + 1) (2 * (p.n + 1)) (by omega) (.inl (by omega)) (by omega) e' (.inr (by omega))
    generalize dbl (hs p) (rdn p) 64 (p.n + 1) (2 * (p.n + 1)) = D at a b c ⊢
    obtain ⟨l, hh, r⟩ := D
    simp only at a b c ⊢
    rcases c with ⟨rfl, rfl⟩ | ⟨c1, c2, c3⟩
    · have : hlv (hs p) (rdn p) 64 (9223372036854775807 : Int) (9223372036854775807 : Int) = ((9223372036854775807 : Int), 0) := by rw [hlv, if_neg (by omega)]
      rw [this]
      exact ⟨⟨by simp only; omega, by simp only; omega, .inr b, .inl rfl⟩, by simp only; omega⟩
    · obtain ⟨x, y, z, u⟩ := hlv_ok (hs p) (rdn p) 64 l hh c1 (by omega) c3
      refine ⟨⟨by omega, by omega, .inr ?_, .inr u⟩, by omega⟩
      rcases z with z | z
      · rw [z]; exact b
      · exact z
theorem blen_bd {t : TS} (h : TI t.p) (hh : 0 ≤ t.hint ∧ t.hint ≤ (t.p.n : Int)) : Bd t.p (blen t).1 := by
  unfold blen
  have hle := h.le
  by_cases e : t.p.n ≠ 0 ∧ sl t.p t.p.n = false
  · rw [if_pos e]
    obtain ⟨a, b, c, d⟩ := inAr_ok h hh e.1 e.2
    refine ⟨a, by simp only; omega, ?_, .inr ?_⟩
    · rcases c with c | c
      · exact .inl c
      · by_cases q : inAr t = 0
        · exact .inl q
        · exact .inr (by rw [sl_hs h (by simp only; omega) (by simp only; omega)]; exact c)
    · rw [sl_hs h (by simp only; omega) (by simp only; omega)]; exact d
  · rw [if_neg e]
    refine (beh_ok h ?_).1
    by_cases q : t.p.n = 0
    · exact .inl q
    · right; cases hq : sl t.p t.p.n with
      | true => rfl
      | false => exact absurd ⟨q, hq⟩ e
/-- What Len leaves. -/
theorem blen_st {t : TS} (h : TI t.p) (hh : 0 ≤ t.hint ∧ t.hint ≤ (t.p.n : Int)) : (blen t).2.p = t.p ∧ 0 ≤ (blen t).2.hint ∧ (blen t).2.hint ≤ (t.p.n : Int) ∧ (blen t).2.sb = t.sb ∧ (blen t).2.nb = t.nb ∧
    ((t.p.n ≠ 0 ∧ sl t.p t.p.n = false ∧ (blen t).2 = { t with hint := (blen t).1 } ∧ (blen t).1 < t.p.n) ∨ (¬ (t.p.n ≠ 0 ∧ sl t.p t.p.n = false) ∧ (blen t).2 = { t with pr := t.pr + ((beh t.p).2 : Nat) } ∧ (t.p.n : Int) ≤ (blen t).1)) := by
  unfold blen
  by_cases e : t.p.n ≠ 0 ∧ sl t.p t.p.n = false
  · rw [if_pos e]
    obtain ⟨a, b, c, d⟩ := inAr_ok h hh e.1 e.2
    have e2 : tHint t (inAr t) = { t with hint := inAr t } := by unfold tHint; rw [if_pos ⟨a, by omega⟩]
    rw [e2]
    exact ⟨rfl, a, by show inAr t ≤ _; omega, rfl, rfl, .inl ⟨e.1, e.2, rfl, b⟩⟩
  · rw [if_neg e]
    refine ⟨rfl, hh.1, hh.2, rfl, rfl, .inr ⟨e, rfl, (beh_ok h ?_).2⟩⟩
    by_cases q : t.p.n = 0
    · exact .inl q
    · right; cases hq : sl t.p t.p.n with
      | true => rfl
      | false => exact absurd ⟨q, hq⟩ e
/-- Asked again, it answers the same. -/
theorem blen_two {t u : TS} (h : TI t.p) (hh : 0 ≤ t.hint ∧ t.hint ≤ (t.p.n : Int)) (hu : u.p = t.p) (hv : u.hint = (blen t).2.hint) : (blen u).1 = (blen t).1 := by
  obtain ⟨_, _, _, _, _, q⟩ := blen_st h hh
  rcases q with ⟨e1, e2, e3, e4⟩ | ⟨e1, e2, _⟩
  · have hx : u.hint = (blen t).1 := by rw [hv, e3]
    have e5 : (blen t).1 = inAr t := by unfold blen; rw [if_pos ⟨e1, e2⟩]
    obtain ⟨a, b, c, d⟩ := inAr_ok h hh e1 e2
    conv => lhs; unfold blen
    rw [hu, if_pos ⟨e1, e2⟩]
    show inAr u = _
    unfold inAr
    rw [hu, hx, e5]
    rw [if_neg (by
      rintro ⟨q1, q2⟩
      rcases c with c | c
      · omega
      · rw [c] at q2; cases q2), if_pos d]
  · unfold blen
    rw [hu, if_neg e1, if_neg e1]
theorem bis_st (t : TS) (n : Int) : (bis t n).2.p = t.p ∧ (bis t n).2.hint = t.hint ∧ (bis t n).2.sb = t.sb ∧ (bis t n).2.nb = t.nb := by
  unfold bis
  split
  · exact ⟨rfl, rfl, rfl, rfl⟩
  · split
    · exact ⟨rfl, rfl, rfl, rfl⟩
    · split <;> exact ⟨rfl, rfl, rfl, rfl⟩
theorem bis_ok (t : TS) (n : Int) (hx : n ≤ (9223372036854775807 : Int)) : (bis t n).1 = true ↔ Bd t.p n := by
  unfold bis Bd
  by_cases h0 : n < 0
  · rw [if_pos h0]; simp; omega
  · rw [if_neg h0]
    by_cases h1 : n > 0 ∧ hs t.p n = false
    · rw [if_pos h1]
      simp only [Bool.false_eq_true, false_iff]
      rintro ⟨_, _, q, _⟩
      rcases q with q | q
      · omega
      · rw [h1.2] at q; cases q
    · rw [if_neg h1]
      have hb : n = 0 ∨ hs t.p n = true := by
        by_cases q : n = 0
        · exact .inl q
        · right; cases hq : hs t.p n with
          | true => rfl
          | false => exact absurd ⟨by omega, hq⟩ h1
      by_cases h2 : n = (9223372036854775807 : Int)
      · rw [if_pos h2]
        simp only [true_iff]
        exact ⟨by omega, hx, hb, .inl h2⟩
      · rw [if_neg h2]
        constructor
        · intro q
          exact ⟨by omega, hx, hb, .inr (by simpa using q)⟩
        · rintro ⟨_, _, _, q⟩
          rcases q with q | q
          · exact absurd q h2
          · simp [q]
/-- Where the present numbers above 0 are 1 to m, m is the one border. -/
theorem Bd.row {p : Pa} {n : Int} (h : Bd p n) {m : Nat} (hm : (m : Int) < (9223372036854775807 : Int)) (hp : ∀ i : Int, 1 ≤ i → i ≤ (9223372036854775807 : Int) → (hs p i = true ↔ i ≤ m)) : n = m := by
  obtain ⟨a, b, c, d⟩ := h
  have h1 : n ≤ m := by
    rcases c with c | c
    · omega
    · by_cases q : n = 0
      · omega
      · exact (hp n (by omega) b).1 c
  by_cases e : n = m
  · exact e
  · have h2 := (hp (n + 1) (by omega) (by omega)).2 (by omega)
    rcases d with d | d
    · omega
    · rw [d] at h2; cases h2
end Go.Proofs.YtckgoedlgecokaaGreatDoor

/- A table whose keys are whole numbers of a window, as a function of its keys (no program in it). -/
namespace Go.Proofs.YtckgoedlgecokaaGreatDoor
open Go.RowKit

theorem put_e {z : Nat} {g : G} {k v : V} (hk : fm k = true) (hv : fm v = true) (hk0 : k.1 ≠ 0) : (put z g k v).2.2 = 0 ∨ (put z g k v).2.2 = 12 := by
  rw [put, if_pos ⟨hk, hv⟩, if_neg hk0]
  split
  · first | (right; rfl) | (split <;> first | (left; rfl) | (right; rfl))
  · split
    · left; rfl
    · split
      · left; rfl
      · rename_i x _ _ _ _
        show full _ = 0 ∨ full _ = 12
        unfold full
        split
        · left; rfl
        · right; rfl
/-- Where no rehash is due, a Set is a store. -/
theorem set_one {t : TS} {s : H.St} {k v : V} (hk : fm k = true) (hv : fm v = true) (hk0 : k.1 ≠ 0) (he : (pset t.p k v).2.2 ≠ 12) : tset t s k v = (one t k v, s, 0) := by
  unfold tset
  rw [if_neg (fun q => q ⟨hk, hv⟩), if_neg hk0, if_pos he]
  have e0 : (pset t.p k v).2.2 = 0 := by
    unfold pset at he ⊢
    by_cases hA : inA t.p.n k
    · rw [if_pos hA]
    · rw [if_neg hA] at he ⊢
      exact (put_e hk hv hk0).resolve_right he
  rw [e0]
/-- A key that is there gets another value without a rehash. -/
theorem set_held {t : TS} {s : H.St} {k v : V} (h : TI t.p) (hk : KOK k) (hv : fm v = true) (hp : (pget t.p k).1 ≠ 0) : tset t s k v = (one t k v, s, 0) :=
  set_one hk.1 hv hk.2.1 (fun e => hp (by rw [(h.full hk e).2.2.2.2.2.1]; rfl))
theorem reh_hint {u : TS} {s : H.St} {k : V} (h : (reh u s k).2.2 = 0) : (reh u s k).1.hint = 0 := by
  unfold reh at h ⊢
  by_cases h1 : rsE u.p k ≠ 0
  · rw [if_pos h1] at h; exact absurd h h1
  · rw [if_neg h1] at h ⊢
    by_cases h2 : tpE s (rsA u.p k) (rsZ u.p k) ≠ 0
    · rw [if_pos h2] at h; exact absurd h h2
    · rw [if_neg h2]
theorem tset_hint {t : TS} {s : H.St} (k v : V) (hh : 0 ≤ t.hint ∧ t.hint ≤ (t.p.n : Int)) : 0 ≤ (tset t s k v).1.hint ∧ (tset t s k v).1.hint ≤ ((tset t s k v).1.p.n : Int) := by
  have h1 : (one t k v).p.n = t.p.n := (pset_nz t.p k v).1
  unfold tset
  split
  · exact hh
  · split
    · exact hh
    · split
      · rw [h1]; exact hh
      · split
        · rename_i q
          rw [reh_err q, h1]; exact hh
        · rename_i q
          have e := reh_hint (Classical.byContradiction fun z => q z)
          show 0 ≤ (reh (one t k v) s k).1.hint ∧ (reh (one t k v) s k).1.hint ≤ _
          rw [e]
          exact ⟨Int.le_refl _, by omega⟩
theorem TB.like {t : TS} {s : H.St} {L : Int} (h : TB t s L) {t' : TS} (hp : t'.p = t.p) (h1 : t'.sb = t.sb) (h2 : t'.nb = t.nb) : TB t' s L := ⟨by rw [hp, h1]; exact h.b1, by rw [hp, h2]; exact h.b2, by rw [h1, h2]; exact h.ne, by rw [hp]; exact h.live⟩
/-- A value that may stand in a row. -/
def Gv (v : V) : Prop := fm v = true ∧ v.1 ≠ 0
def I64 (x : Int) : Prop := -9223372036854775808 ≤ x ∧ x ≤ (9223372036854775807 : Int)
def fupd (f : Int → V) (x : Int) (v : V) : Int → V := fun y => if y = x then v else f y
theorem kok_kn {x : Int} (h : I64 x) : KOK (kn x) := ⟨fm_kn x, by simp, by simp; exact h.1, by simp; exact h.2⟩
theorem rngI {x : Int} (h : I64 x) : Rng (kn x) := ⟨h.1, h.2⟩
structure Mw (a : Int) (K : Nat) (f : Int → V) (t : TS) (s : H.St) : Prop where
  hh : 0 ≤ t.hint ∧ t.hint ≤ (t.p.n : Int)
  tb : TB t s 4
  lm : 4 + 16 * ((K : Int) + 1) ≤ s.lim
  n : t.p.n ≤ 2 * (K + 1)
  z : t.p.z ≤ 2 * (K + 1)
  wd : ∀ k ∈ pres t.p, ∃ i : Nat, i < K ∧ k = kn (a + i)
  mp : ∀ x, I64 x → pget t.p (kn x) = f x
  fv : ∀ x, I64 x → fm (f x) = true
  kk : K ≤ 1000
theorem wd_len {a : Int} {K : Nat} {l : List V} (hn : l.Nodup) (h : ∀ k ∈ l, ∃ i : Nat, i < K ∧ k = kn (a + i)) : l.length ≤ K := by
  have : l.length ≤ ((List.range K).map fun i : Nat => kn (a + i)).length := nd_len hn fun k hk => by
    obtain ⟨i, h1, h2⟩ := h k hk
    exact List.mem_map.2 ⟨i, List.mem_range.2 h1, h2.symm⟩
  simpa using this
theorem Mw.like {a : Int} {K : Nat} {f : Int → V} {t t' : TS} {s : H.St} (h : Mw a K f t s) (hp : t'.p = t.p) (hh : 0 ≤ t'.hint ∧ t'.hint ≤ (t.p.n : Int)) (h1 : t'.sb = t.sb) (h2 : t'.nb = t.nb) : Mw a K f t' s :=
  ⟨by rw [hp]; exact hh, h.tb.like hp h1 h2, h.lm, by rw [hp]; exact h.n, by rw [hp]; exact h.z, by rw [hp]; exact h.wd, by rw [hp]; exact h.mp, h.fv, h.kk⟩
theorem Mw.zero {a : Int} {K : Nat} {f : Int → V} {t : TS} {s : H.St} (h : Mw a K f t s) (ti : TI t.p) (iv : H.Inv 0 s) {x : Int} (hI : I64 x) {v : V} (hv : fm v = true) : (tset t s (kn x) v).2.2 = 0 := by
  have hr := rngI hI
  have hk' := kok_kn hI
  by_cases he : (pset t.p (kn x) v).2.2 = 12
  · have hd := (due_iff ti hr).2 ⟨hk'.1, hv, hk'.2.1, he⟩
    obtain ⟨_, _, _, _, _, _, hpp, ha⟩ := ti.full hk' he
    refine due_zero ti hr hd ?_
    have hl := wd_len ti.pres_nd h.wd
    have hlen : (pres (one t (kn x) v).p ++ [kn x]).length ≤ K + 1 := by
      have e : pres (one t (kn x) v).p = pres t.p := hpp
      rw [e, List.length_append]
      simp only [List.length_singleton]
      omega
    have hkk := h.kk
    obtain ⟨r1, r2, r3⟩ : rsE (one t (kn x) v).p (kn x) = 0 ∧ rsA (one t (kn x) v).p (kn x) ≤ 2 * (K + 1) ∧ rsZ (one t (kn x) v).p (kn x) ≤ 2 * (K + 1) := by
      have h0 := (rs_ok (p := (one t (kn x) v).p) ha.ok ha.nd (by omega)).1
      rcases cens (p := (one t (kn x) v).p) ha.ok ha.nd with q | ⟨q1, q2, _⟩
      · rw [q] at h0; cases h0
      · have := q2.bound (by omega)
        exact ⟨q1, by omega, by omega⟩
    have hlv := h.tb.live
    have hn := h.n
    have hz := h.z
    have hlm := h.lm
    have t1 : H.takeE s (rsA (one t (kn x) v).p (kn x) : Nat) = 0 := take0 (by omega) (by omega)
    obtain ⟨_, a2, a3, _⟩ := blk_take iv t1
    have t2 : H.takeE (H.takeSt s (rsA (one t (kn x) v).p (kn x) : Nat)) (3 * (rsZ (one t (kn x) v).p (kn x) : Nat)) = 0 := take0 (by omega) (by omega)
    have t3 : tpE s (rsA (one t (kn x) v).p (kn x) : Nat) (rsZ (one t (kn x) v).p (kn x) : Nat) = 0 := by unfold tpE; rw [if_neg (fun q => q t1)]; exact t2
    unfold reh
    rw [if_neg (fun q => q r1), if_neg (fun q => q t3)]
  · rw [set_one hk'.1 hv hk'.2.1 he]
theorem Mw.set {a : Int} {K : Nat} {f : Int → V} {t : TS} {s : H.St} (h : Mw a K f t s) (ti : TI t.p) (iv : H.Inv 0 s) {x : Int} (hI : I64 x) {v : V} (hw : v = nil ∨ (a ≤ x ∧ x < a + K)) (hv : fm v = true) (ti' : TI (tset t s (kn x) v).1.p) :
    (tset t s (kn x) v).2.2 = 0 ∧ Mw a K (fupd f x v) (tset t s (kn x) v).1 (tset t s (kn x) v).2.1 := by
  have hr := rngI hI
  have e0 := h.zero ti iv hI hv
  obtain ⟨m1, m2⟩ := tset_map (s := s) (k := kn x) (v := v) ti hr
  obtain ⟨_, _, g1, g2⟩ := m1 e0
  have hwd : ∀ k ∈ pres (tset t s (kn x) v).1.p, ∃ i : Nat, i < K ∧ k = kn (a + i) := fun k' hk' => by
    obtain ⟨q1, q2⟩ := ti'.mem_pres.1 hk'
    by_cases e : k' = kn x
    · rcases hw with hw | hw
      · rw [e, g1, hw] at q2; exact absurd rfl q2
      · exact ⟨(x - a).toNat, by omega, by rw [e]; congr 1; omega⟩
    · rw [g2 k' q1 e] at q2
      exact h.wd k' (ti.mem_pres.2 ⟨q1, q2⟩)
  have hl' := wd_len ti'.pres_nd hwd
  have hkk := h.kk
  have hsz : (tset t s (kn x) v).1.p.n ≤ 2 * (K + 1) ∧ (tset t s (kn x) v).1.p.z ≤ 2 * (K + 1) := by
    by_cases hd : Due t.p (kn x) v ∧ (tset t s (kn x) v).2.2 = 0
    · have hf := (set_due ti hr hd.1 hd.2 ti').1
      have := hf.bound (by omega)
      exact ⟨by omega, by omega⟩
    · obtain ⟨e1, e2⟩ := set_same (s := s) ti hr hd
      exact ⟨by rw [e1]; exact h.n, by rw [e2]; exact h.z⟩
  have tb := h.tb.set iv (kn x) v
  refine ⟨e0, tset_hint _ _ h.hh, tb.1, by rw [tb.2]; exact h.lm, hsz.1, hsz.2, hwd, fun y hy => ?_, fun y hy => ?_, h.kk⟩
  · unfold fupd
    by_cases q : y = x
    · subst q; rw [if_pos rfl]; exact g1
    · rw [if_neg q, g2 (kn y) (kok_kn hy) (fun z => q (kn_inj z))]; exact h.mp y hy
  · unfold fupd
    split
    · exact hv
    · exact h.fv y hy
theorem Mw.len {a : Int} {K : Nat} {f : Int → V} {t : TS} {s : H.St} (h : Mw a K f t s) (ti : TI t.p) {m : Nat} (hm : m ≤ 100000) (hf : ∀ x, I64 x → 1 ≤ x → ((f x).1 ≠ 0 ↔ x ≤ m)) : (blen t).1 = m ∧ Mw a K f (blen t).2 s := by
  obtain ⟨b1, b2, b3, b4, b5, _⟩ := blen_st ti h.hh
  refine ⟨(blen_bd ti h.hh).row (by omega) fun i h1 h2 => ?_, h.like b1 ⟨b2, b3⟩ b4 b5⟩
  have hI : I64 i := ⟨by omega, h2⟩
  rw [hs, h.mp i hI, decide_eq_true_iff]
  exact hf i hI h1
end Go.Proofs.YtckgoedlgecokaaGreatDoor
