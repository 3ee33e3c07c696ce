/- Stats of a table. -/
import Derived.Test.YtpmmploedkbeoaaGreatDoorCg19
import Derived.Test.YtpmmploedkbeoaaGreatDoorCg17
import Derived.Test.YtpmmploedkbeoaaGreatDoorCg14
namespace Go.Proofs.YtpmmploedkbeoaaGreatDoor
open Go.RowKit

set_option maxRecDepth 20000 in
set_option maxHeartbeats 4000000 in
theorem ask_stats {No : Nat → Prop} {w : World} {M S hb c : Nat} {t : TS} {s : H.St} (h : Mt No w M S hb c t s) (_hc : c ≤ 700000) {a : Option Addr} {cp : Nat} {F : Nat → V} (hv : Vin w a 1 F) (hva : ∀ g off, a = some ⟨g, off, none⟩ → No g) (hcp : 1 ≤ cp) (h0 : F 0 = (4, 1, ⟨#[]⟩)) (nm : ByteArray) (p q : Int) :
    Calls Tryz.prog 22 #[.pointer (some ⟨M, 0, none⟩), .agg #[.int .i64 12, .string nm, .slice a 1 cp, .int .i64 p, .int .i64 q]] w (AskP No w M S hb c t s [kn (t.p.n : Nat), kn (t.p.z : Nat), kn (t.p.g.f : Nat), kn t.hint, kn t.pr] 0) := by
  obtain ⟨G, cpG, T, A, b, aT, mc, hG, tt, nM, nG⟩ := h.ex
  obtain ⟨B0, O0, R0⟩ := entry2 w 12 nm (.slice a 1 cp) p q
  obtain ⟨W0, hW0⟩ : ∃ W0, (w.alloc (.cells #[.int .i64 12, .string nm, .slice a 1 cp, .int .i64 p, .int .i64 q] 48)).alloc (.cells #[.slice none 0 0, .int .i64 0, .int .i64 0, .slice none 0 0, .slice none 0 0, .int .i64 0, .int .i64 0, .int .i64 0, .int .i64 0, .int .i64 0, .int .i64 0] 35) = W0 := ⟨_, rfl⟩
  rw [hW0] at B0 O0 R0
  have CH := handed_any (mc.below B0) (hv.below B0) hcp 12 p q nm rfl (by omega) (by omega) (by rw [h0])
  have o0 := O0.c0
  have o1 := O0.c1
  have o2 := O0.c2
  have o3 := O0.c3
  have o4 := O0.c4
  have huk : unk ((1 : Nat) : Int) F 1 = false := by
    rw [unk, unk, h0, kn_tab]; rfl
  rw [huk] at CH
  have HT0 : Hid (TT (fun g => No g ∨ (w.heap.size ≤ g ∧ g < W0.heap.size)) W0 T A b aT S hb c t s) := tt.news B0
  have HN : Hid (∀ g, No g → g < w.heap.size) := fun g q => tt.nos q
  have HM : Hid (Mc w M S (.slice (some ⟨G, 0, none⟩) 1 cpG) ∧ w.cell? ⟨G, 0, none⟩ = some (.pointer (some ⟨T, 0, none⟩)) ∧ No M ∧ No G ∧ G < w.heap.size) := ⟨mc, hG, nM, nG, tt.nos nG⟩
  have HR0 : Hid (R11 W0 (w.heap.size + 1) (.slice none 0 0) 0) := R0
  have HB0 : Hid (Below w.heap.size w W0) := B0
  have HV : Hid (Vin W0 a 1 F ∧ ∀ g off, a = some ⟨g, off, none⟩ → No g) := ⟨hv.below B0, hva⟩
  clear h mc hG tt nM nG B0 O0 R0 hv hva huk
  simp only [Bool.false_eq_true, if_false] at CH
  go_enter Tryz.func22, Tryz.ntmps22
  go_wp2_with fail
  refine CH.mono ?_; rintro e w1 ⟨rfl, hb1⟩
  have HB1 : Hid (Below w.heap.size w w1) := bthen HB0.out HB0.out.size hb1
  have HT1 : Hid (TT (fun g => No g ∨ (w.heap.size ≤ g ∧ g < W0.heap.size)) w1 T A b aT S hb c t s) := HT0.out.below hb1
  have HR1 : Hid (R11 w1 (w.heap.size + 1) (.slice none 0 0) 0) := HR0.out.below hb1
  obtain ⟨lb, off, rfl, hlb, u0, u1, u2⟩ := (HV.out.1.below hb1).at' 0 (by omega)
  rw [h0, Nat.zero_mul, Nat.add_zero] at u0 u1
  have o0' := (hb1.cell (p := ⟨w.heap.size, 0, none⟩) (show w.heap.size < W0.heap.size by have := HR0.out.lt; omega)).trans o0
  have CT := table_any (HM.out.1.below HB1.out) ((HB1.out.cell (p := ⟨G, 0, none⟩) HM.out.2.2.2.2).trans HM.out.2.1)
  have CG := hstats_any HT1.out.tm
  clear CH hb1 hlb u2 o0 o1 o2 o3 o4 hW0
  go_wp2_with fail
  refine CT.mono ?_; rintro e w2 ⟨rfl, hw2⟩; rw [hw2]; clear hw2 CT
  go_wp2_with fail
  refine CG.mono ?_; rintro e U ⟨v, rfl, qv, hu⟩
  obtain ⟨x, n, l', rfl⟩ : ∃ x n c', v = .slice x n c' := by
    obtain ⟨x, c', h1, _⟩ := qv.ex
    exact ⟨x, _, c', h1⟩
  have qb : [kn (t.p.n : Nat), kn (t.p.z : Nat), kn (t.p.g.f : Nat), kn t.hint, kn t.pr] ≠ [] → ∀ g off, x = some ⟨g, off, none⟩ → w1.heap.size ≤ g ∧ g < U.heap.size := fun hne g off hx => by
    obtain ⟨a', c', h1, h2, h3⟩ := qv.ex
    injection h1 with h1 _ _
    subst h1
    obtain ⟨lb, o2, e2, hl, _⟩ := h2.at' 0 (List.length_pos_iff.2 hne)
    rw [hx] at e2
    cases e2
    exact ⟨h3 g off hx, hl⟩
  have rU := HR1.out.below hu
  have tU := HT1.out.news hu
  have kU : Keep No w U := (Keep.of HB1.out).bel hu
  have rS := rU.set (.slice x n l') 0
  have qS := rq_set11 (N := w.heap.size + 1) qv (by have := HR1.out.lt; exact this) (.slice x n l') 0
  obtain ⟨U1, U2, U3, U4, U5, U6, U7, U8, U9, U10, U11, ⟨f0, n0⟩, ⟨s0, f1, n1⟩, ⟨s1, f2, n2⟩, ⟨s2, f3, n3⟩, ⟨s3, f4, n4⟩, ⟨s4, f5, n5⟩, ⟨s5, f6, n6⟩, ⟨s6, f7, n7⟩, ⟨s7, f8, n8⟩, ⟨s8, f9, n9⟩, ⟨s9, f10, n10⟩, s10, se⟩ := rU.steps (.slice x n l') 0
  have HE : Hid (R11 U11 (w.heap.size + 1) (.slice x n l') 0 ∧ TT (fun g => (No g ∨ (w.heap.size ≤ g ∧ g < W0.heap.size)) ∨ (w1.heap.size ≤ g ∧ g < U.heap.size)) U11 T A b aT S hb c t s ∧ Keep No w U11 ∧ Rq U11 w.heap.size (.slice x n l') [kn (t.p.n : Nat), kn (t.p.z : Nat), kn (t.p.g.f : Nat), kn t.hint, kn t.pr] ∧ ([kn (t.p.n : Nat), kn (t.p.z : Nat), kn (t.p.g.f : Nat), kn t.hint, kn t.pr] ≠ [] → ∀ g off, x = some ⟨g, off, none⟩ → w1.heap.size ≤ g ∧ g < U.heap.size)) := by
    rw [← se]
    exact ⟨rS, tU.set11 (.inl (.inr ⟨by omega, HR0.out.lt⟩)) _ _, keep_set11 kU (fun q => by have := HN.out _ q; omega) _ _, qS.low (by have := HR1.out.lt; omega), qb⟩
  clear CG hu rU tU kU rS qS qv qb se u0 u1 o0'
  go_wp2_with fail
  have r0 := HE.out.1.c0
  have r1 := HE.out.1.c1
  have r2 := HE.out.1.c2
  have r3 := HE.out.1.c3
  have r4 := HE.out.1.c4
  have r5 := HE.out.1.c5
  have r6 := HE.out.1.c6
  have r7 := HE.out.1.c7
  have r8 := HE.out.1.c8
  have r9 := HE.out.1.c9
  have r10 := HE.out.1.c10
  exact bodyPost_ret (v := rp (.slice x n l') 0) (by simp [results, Tryz.results22, go_sem, r0, r1, r2, r3, r4, r5, r6, r7, r8, r9, r10]) rfl ⟨⟨_, _, _, rfl, HE.out.2.2.2.1, _, ⟨G, cpG, T, A, b, aT, HM.out.1.kept HE.out.2.2.1 HM.out.2.2.1, by rw [World.cell?_of_block (w := w) (HE.out.2.2.1.block G HM.out.2.2.2.2 HM.out.2.2.2.1)]; exact HM.out.2.1, HE.out.2.1, .inl (.inl HM.out.2.2.1), .inl (.inl HM.out.2.2.2.1)⟩, fun g q => .inl (.inl q), fun hne g off q => .inr (HE.out.2.2.2.2 hne g off q)⟩, HE.out.2.2.1⟩
end Go.Proofs.YtpmmploedkbeoaaGreatDoor

/- The walk of Pair, on: among the nodes. -/
namespace Go.Proofs.YtpmmploedkbeoaaGreatDoor
open Go.RowKit

/-- A node's block of its own. -/
structure R7 (w : World) (N : Nat) (k x : V) : Prop where
  c0 : w.cell? ⟨N, 0, none⟩ = some (.int .i64 k.1)
  c1 : w.cell? ⟨N, 1, none⟩ = some (.int .i64 k.2.1)
  c2 : w.cell? ⟨N, 2, none⟩ = some (.string k.2.2)
  c3 : w.cell? ⟨N, 3, none⟩ = some (.int .i64 x.1)
  c4 : w.cell? ⟨N, 4, none⟩ = some (.int .i64 x.2.1)
  c5 : w.cell? ⟨N, 5, none⟩ = some (.string x.2.2)
  c6 : ∃ l : Int, w.cell? ⟨N, 6, none⟩ = some (.int .i64 l)
  fz : ∀ j, w.frozen? ⟨N, j, none⟩ = false
  lt : N < w.heap.size
theorem R7.kept {No : Nat → Prop} {w w' : World} {N : Nat} {k x : V} (h : R7 w N k x) (q : Keep No w w') (hn : No N) : R7 w' N k x := by
  have e := q.block N h.lt hn
  obtain ⟨l, hl⟩ := h.c6
  exact ⟨by rw [World.cell?_of_block (w := w) e]; exact h.c0, by rw [World.cell?_of_block (w := w) e]; exact h.c1, by rw [World.cell?_of_block (w := w) e]; exact h.c2, by rw [World.cell?_of_block (w := w) e]; exact h.c3, by rw [World.cell?_of_block (w := w) e]; exact h.c4, by rw [World.cell?_of_block (w := w) e]; exact h.c5, ⟨l, by rw [World.cell?_of_block (w := w) e]; exact hl⟩, fun j => by rw [World.frozen?_of_block (w := w) e]; exact h.fz j, Nat.lt_of_lt_of_le h.lt q.size⟩
theorem R7.below {w w' : World} {N : Nat} {k x : V} (h : R7 w N k x) (q : Below w.heap.size w w') : R7 w' N k x := h.kept (No := fun _ => True) (Keep.of q) trivial
theorem R7.made (w : World) (k x : V) (l : Int) : R7 (w.alloc (.cells #[.int .i64 k.1, .int .i64 k.2.1, .string k.2.2, .int .i64 x.1, .int .i64 x.2.1, .string x.2.2, .int .i64 l] 203)) w.heap.size k x := by
  have h := (MapKept.heap_alloc w (.cells #[.int .i64 k.1, .int .i64 k.2.1, .string k.2.2, .int .i64 x.1, .int .i64 x.2.1, .string x.2.2, .int .i64 l] 203)).1
  exact ⟨cell_of_row h 0, cell_of_row h 1, cell_of_row h 2, cell_of_row h 3, cell_of_row h 4, cell_of_row h 5, ⟨l, cell_of_row h 6⟩, fun j => new_free w _ _ j, by simp⟩
abbrev set7b (w : World) (N : Nat) (k x : V) (l : Int) : World := ((((((w.setCell ⟨N, 0, none⟩ (.int .i64 k.1)).setCell ⟨N, 1, none⟩ (.int .i64 k.2.1)).setCell ⟨N, 2, none⟩ (.string k.2.2)).setCell ⟨N, 3, none⟩ (.int .i64 x.1)).setCell ⟨N, 4, none⟩ (.int .i64 x.2.1)).setCell ⟨N, 5, none⟩ (.string x.2.2)).setCell ⟨N, 6, none⟩ (.int .i64 l)
theorem R7.set {w : World} {N : Nat} {k0 x0 : V} (h : R7 w N k0 x0) (k x : V) (l : Int) : R7 (set7b w N k x l) N k x := by
  have ne : ∀ (i j : Nat) (W : World) (v : Value), i ≠ j → (W.setCell ⟨N, i, none⟩ v).cell? ⟨N, j, none⟩ = W.cell? ⟨N, j, none⟩ := fun i j W v hij => World.cell?_setCell_other _ _ _ _ (fun q => by injection q with _ q2; omega)
  obtain ⟨l0, h6⟩ := h.c6
  refine ⟨?_, ?_, ?_, ?_, ?_, ?_, ⟨l, ?_⟩, fun j => by simpa using h.fz j, by simpa [World.setCell] using h.lt⟩
  · rw [ne 6 0 _ _ (by omega), ne 5 0 _ _ (by omega), ne 4 0 _ _ (by omega), ne 3 0 _ _ (by omega), ne 2 0 _ _ (by omega), ne 1 0 _ _ (by omega)]; exact World.cell?_setCell_same _ _ _ h.c0
  · rw [ne 6 1 _ _ (by omega), ne 5 1 _ _ (by omega), ne 4 1 _ _ (by omega), ne 3 1 _ _ (by omega), ne 2 1 _ _ (by omega)]; exact World.cell?_setCell_same _ _ _ (by rw [ne 0 1 _ _ (by omega)]; exact h.c1)
  · rw [ne 6 2 _ _ (by omega), ne 5 2 _ _ (by omega), ne 4 2 _ _ (by omega), ne 3 2 _ _ (by omega)]; exact World.cell?_setCell_same _ _ _ (by rw [ne 1 2 _ _ (by omega), ne 0 2 _ _ (by omega)]; exact h.c2)
  · rw [ne 6 3 _ _ (by omega), ne 5 3 _ _ (by omega), ne 4 3 _ _ (by omega)]; exact World.cell?_setCell_same _ _ _ (by rw [ne 2 3 _ _ (by omega), ne 1 3 _ _ (by omega), ne 0 3 _ _ (by omega)]; exact h.c3)
  · rw [ne 6 4 _ _ (by omega), ne 5 4 _ _ (by omega)]; exact World.cell?_setCell_same _ _ _ (by rw [ne 3 4 _ _ (by omega), ne 2 4 _ _ (by omega), ne 1 4 _ _ (by omega), ne 0 4 _ _ (by omega)]; exact h.c4)
  · rw [ne 6 5 _ _ (by omega)]; exact World.cell?_setCell_same _ _ _ (by rw [ne 4 5 _ _ (by omega), ne 3 5 _ _ (by omega), ne 2 5 _ _ (by omega), ne 1 5 _ _ (by omega), ne 0 5 _ _ (by omega)]; exact h.c5)
  · exact World.cell?_setCell_same _ _ _ (by rw [ne 5 6 _ _ (by omega), ne 4 6 _ _ (by omega), ne 3 6 _ _ (by omega), ne 2 6 _ _ (by omega), ne 1 6 _ _ (by omega), ne 0 6 _ _ (by omega)]; exact h6)

/-- Behind At: a node in a block of its own. -/
structure Px (w W : World) (N vx : Nat) (k x : V) : Prop where
  r7 : R7 W vx k x
  r0 : R3 W N nil
  r1 : R3 W (N + 1) nil
  bel : Below N w W
  ge : N + 2 ≤ vx
set_option maxRecDepth 20000 in
set_option maxHeartbeats 1500000 in
theorem pair_out {w : World} {T A b a S : Nat} {t : TS} (h : Tm w T A b a S t) (hn : t.p.n ≤ 65536) (hz : t.p.z ≤ 65536) (j : Nat) (hj : j < t.p.z) :
    Calls Tryz.prog 110 #[tp T, .int .i64 ((t.p.n : Int) + 1 + j)] w fun e w' => e = .returned (.tuple #[vv (t.p.g.K j), vv (t.p.g.X j)]) ∧ Below w.heap.size w w' := by
  have R0 := (R3.made w nil).below (b1 _ (vb 0 0 ⟨#[]⟩))
  have R1 := R3.made (w.alloc (vb 0 0 ⟨#[]⟩)) nil
  have eX : (w.alloc (vb 0 0 ⟨#[]⟩)).heap.size = w.heap.size + 1 := by simp
  rw [eX] at R1
  have B0 := b2 w (vb 0 0 ⟨#[]⟩) (vb 0 0 ⟨#[]⟩)
  have R0' : R3 ((w.alloc (vb 0 0 ⟨#[]⟩)).alloc (vb 0 0 ⟨#[]⟩)) w.heap.size nil := R0
  have R1' : R3 ((w.alloc (vb 0 0 ⟨#[]⟩)).alloc (vb 0 0 ⟨#[]⟩)) (w.heap.size + 1) nil := R1
  have eS : ((w.alloc (vb 0 0 ⟨#[]⟩)).alloc (vb 0 0 ⟨#[]⟩)).heap.size = w.heap.size + 2 := by simp
  obtain ⟨W0, hW0⟩ : ∃ W0, (w.alloc (vb 0 0 ⟨#[]⟩)).alloc (vb 0 0 ⟨#[]⟩) = W0 := ⟨_, rfl⟩
  rw [hW0] at B0 R0' R1' eS
  have h0 := h.below B0
  have CA := fun W (hW : Below W0.heap.size W0 W) => at_in j W (h0.pm.pt.below hW) hj
  have c1 : W0.cell? ⟨T, 1, none⟩ = some (.slice (some ⟨A, 0, none⟩) t.p.n t.p.n) := h0.pm.c0
  have c2 : W0.cell? ⟨T, 2, none⟩ = some (.pointer (some ⟨b, 0, none⟩)) := h0.pm.c1
  generalize link (pl t.p.z) t.p.g j = l at *
  generalize t.p.g.K j = k at *
  generalize t.p.g.X j = x at *
  have HG1 : Hid (∀ w3, Below W0.heap.size W0 w3 → Px w (w3.alloc (.cells #[.int .i64 k.1, .int .i64 k.2.1, .string k.2.2, .int .i64 x.1, .int .i64 x.2.1, .string x.2.2, .int .i64 l] 203)) w.heap.size w3.heap.size k x) := fun w3 b3 => by
    have bb := bthen b3 b3.size (b1 w3 (.cells #[.int .i64 k.1, .int .i64 k.2.1, .string k.2.2, .int .i64 x.1, .int .i64 x.2.1, .string x.2.2, .int .i64 l] 203))
    exact ⟨R7.made w3 k x l, R0'.below bb, R1'.below bb, bthen B0 B0.size bb, by have := b3.size; omega⟩
  have HG2 : Hid (∀ w3, Below W0.heap.size W0 w3 → R7 w3 W0.heap.size nil nil → Px w (set7b w3 W0.heap.size k x l) w.heap.size W0.heap.size k x) := fun w3 b3 r3 => by
    have bb : Below W0.heap.size W0 (set7b w3 W0.heap.size k x l) := ((((((b3.setCell (Nat.le_refl _) _).setCell (Nat.le_refl _) _).setCell (Nat.le_refl _) _).setCell (Nat.le_refl _) _).setCell (Nat.le_refl _) _).setCell (Nat.le_refl _) _).setCell (Nat.le_refl _) _
    exact ⟨r3.set k x l, R0'.below bb, R1'.below bb, bthen B0 B0.size bb, by omega⟩
  have BA := bthen (bdrew1 W0) (Nat.le_refl _) (b1 W0.drew (.cells #[.int .i64 0, .int .i64 0, .string ⟨#[]⟩, .int .i64 0, .int .i64 0, .string ⟨#[]⟩, .int .i64 0] 203))
  have RA : R7 (W0.drew.alloc (.cells #[.int .i64 0, .int .i64 0, .string ⟨#[]⟩, .int .i64 0, .int .i64 0, .string ⟨#[]⟩, .int .i64 0] 203)) W0.heap.size nil nil := R7.made W0.drew nil nil 0
  obtain ⟨Wa, hWa⟩ : ∃ Wa, W0.drew.alloc (.cells #[.int .i64 0, .int .i64 0, .string ⟨#[]⟩, .int .i64 0, .int .i64 0, .string ⟨#[]⟩, .int .i64 0] 203) = Wa := ⟨_, rfl⟩
  rw [hWa] at BA RA
  have z1 : Wa.cell? ⟨T, 1, none⟩ = some (.slice (some ⟨A, 0, none⟩) t.p.n t.p.n) := (h0.below BA).pm.c0
  have z2 : Wa.cell? ⟨T, 2, none⟩ = some (.pointer (some ⟨b, 0, none⟩)) := (h0.below BA).pm.c1
  have CFd := (CA W0.drew (bdrew1 _)).mono (R' := fun e w' => e = .returned (vn k x l) ∧ Hid (Below W0.heap.size W0 w')) fun _ _ hh => ⟨hh.1, bthen (bdrew1 W0) (Nat.le_refl _) hh.2⟩
  have CFa := (CA Wa BA).mono (R' := fun e w' => e = .returned (vn k x l) ∧ Hid (Below W0.heap.size W0 w') ∧ R7 w' W0.heap.size nil nil) fun _ _ hh => ⟨hh.1, bthen BA BA.size hh.2, RA.below hh.2⟩
  clear h h0 R0 R1 R0' R1' B0 eX CA BA RA eS
  unfold vb at hW0
  unfold vv vl tp at *
  unfold pp vn at CFd CFa
  generalize t.p.z = z at *
  generalize t.p.n = n at *
  generalize hsz : w.heap.size = N at *
  have hj1 : ¬ ((n : Int) + 1 + (j : Int) < 1) := by omega
  have hj2 : ¬ ((n : Int) + 1 + (j : Int) ≤ (n : Int)) := by omega
  have hw0 : IntKind.i64.wrap ((n : Int) + 1 + (j : Int) - (n : Int)) = (j : Int) + 1 := by rw [IntKind.wrap_i64]; omega
  have hw1 : IntKind.i64.wrap ((j : Int) + 1 - 1) = (j : Int) := by rw [IntKind.wrap_i64]; omega
  have hw2 : IntKind.i64.wrap (j : Int) = (j : Int) := by rw [IntKind.wrap_i64]; omega
  generalize hm : (n : Int) + 1 + (j : Int) = m at *
  go_enter Tryz.func110, Tryz.ntmps110
  go_upto_region 5 with fail
  go_cut [6] from 34 to 48 (fun bw wx => ∃ vx : Nat, bw = .pointer (some ⟨vx, 0, none⟩) ∧ Hid (Px w wx N vx k x))
  case first =>
    go_region_with (first
      | (go_at_call 103; refine CFd.mono ?_; rintro e w3 ⟨rfl, hB3⟩; have HPX : Hid _ := HG1.out w3 hB3.out; obtain ⟨W8, hW8⟩ : ∃ W8, w3.alloc (.cells #[.int .i64 k.1, .int .i64 k.2.1, .string k.2.2, .int .i64 x.1, .int .i64 x.2.1, .string x.2.2, .int .i64 l] 203) = W8 := ⟨_, rfl⟩; rw [hW8] at HPX)
      | (go_at_call 103; refine CFa.mono ?_; rintro e w3 ⟨rfl, hB3, q3⟩; have q0 : w3.cell? ⟨W0.heap.size, 0, none⟩ = some (.int .i64 0) := q3.c0; have q1 : w3.cell? ⟨W0.heap.size, 1, none⟩ = some (.int .i64 0) := q3.c1; have q2 : w3.cell? ⟨W0.heap.size, 2, none⟩ = some (.string ⟨#[]⟩) := q3.c2; have q4 : w3.cell? ⟨W0.heap.size, 3, none⟩ = some (.int .i64 0) := q3.c3; have q5 : w3.cell? ⟨W0.heap.size, 4, none⟩ = some (.int .i64 0) := q3.c4; have q6 : w3.cell? ⟨W0.heap.size, 5, none⟩ = some (.string ⟨#[]⟩) := q3.c5; obtain ⟨l0, q7⟩ := q3.c6; have qf : ∀ j, w3.frozen? ⟨W0.heap.size, j, none⟩ = false := q3.fz; have HPX : Hid _ := HG2.out w3 hB3.out q3; obtain ⟨W8, hW8⟩ : ∃ W8, set7b w3 W0.heap.size k x l = W8 := ⟨_, rfl⟩; rw [hW8] at HPX; unfold set7b at hW8; clear q3))
    all_goals
      go_wp2_with fail
      go_meet
      exact ⟨_, rfl, HPX⟩
  case rest =>
    obtain ⟨vx, rfl, HX⟩ := hcut
    clear CFd CFa HG1 HG2 z1 z2 hWa c1 c2 hW0
    have x0 := HX.out.r7.c0
    have x1 := HX.out.r7.c1
    have x2 := HX.out.r7.c2
    have x3 := HX.out.r7.c3
    have x4 := HX.out.r7.c4
    have x5 := HX.out.r7.c5
    have n0 := HX.out.r0.bx.c0
    have n1 := HX.out.r0.bx.c1
    have n2 := HX.out.r0.bx.c2
    have nf := HX.out.r0.fz
    have HD : Px w wc N vx k x := HX.out
    have g0 := HD.r1.bx.c0
    have g1 := HD.r1.bx.c1
    have g2 := HD.r1.bx.c2
    have gf := HD.r1.fz
    have kN : Keep (fun g => g ≠ N) wc (set3 wc N k) := (Keep.refl _ _).set3 (fun q => q rfl) k
    have r1 := HD.r1.kept kN (by show N + 1 ≠ N; omega)
    have r7 := HD.r7.kept kN (by have := HX.out.ge; show vx ≠ N; omega)
    have pp2 := P2.mk2 HD.bel HD.r0 HD.r1 k x
    obtain ⟨W2, hW2⟩ : ∃ W2, set3 wc N k = W2 := ⟨_, rfl⟩
    rw [hW2] at r1 r7 pp2
    obtain ⟨W3, hW3⟩ : ∃ W3, set3 W2 (N + 1) x = W3 := ⟨_, rfl⟩
    rw [hW3] at pp2
    unfold set3 at hW2 hW3
    have m0 := r1.bx.c0
    have m1 := r1.bx.c1
    have m2 := r1.bx.c2
    have mf := r1.fz
    have y0 := r7.c0
    have y1 := r7.c1
    have y2 := r7.c2
    have y3 := r7.c3
    have y4 := r7.c4
    have y5 := r7.c5
    have HP : Hid (P2 w W3 N k x) := pp2
    clear r1 r7 kN pp2 HD
    go_wp2_with fail
    go_region
    all_goals
      go_wp2_with fail
      have v0 := HP.out.r0.c0
      have v1 := HP.out.r0.c1
      have v2 := HP.out.r0.c2
      have v3 := HP.out.r1.c0
      have v4 := HP.out.r1.c1
      have v5 := HP.out.r1.c2
      refine bodyPost_ret (v := .tuple #[.agg #[.int .i64 k.1, .int .i64 k.2.1, .string k.2.2], .agg #[.int .i64 x.1, .int .i64 x.2.1, .string x.2.2]]) (by simp [results, Tryz.results110, go_sem, v0, v1, v2, v3, v4, v5]) rfl ⟨rfl, by first | exact HP.out.bel | exact HP.out.bel.trans (bdrew _ _ 1) | exact HP.out.bel.trans ⟨rfl, rfl, rfl, Nat.le_refl _, fun _ _ => rfl⟩⟩
end Go.Proofs.YtpmmploedkbeoaaGreatDoor

/- The walks of both Hints. The great seat's numbers. -/
namespace Go.Proofs.YtpmmploedkbeoaaGreatDoor
open Go.RowKit
theorem TT.hint {No : Nat → Prop} {w : World} {T A b a S hb c : Nat} {t : TS} {s : H.St} (h : TT No w T A b a S hb c t s) (r : Int) : TT No (w.setCell ⟨T, 5, none⟩ (.int .i64 r)) T A b a S hb (c + 1) { t with hint := r } s ∧ Keep No w (w.setCell ⟨T, 5, none⟩ (.int .i64 r)) := by
  obtain ⟨vb, hq⟩ := h.hp
  have k : Keep (fun x => x ≠ T) w (w.setCell ⟨T, 5, none⟩ (.int .i64 r)) := (Keep.refl _ w).set (p := ⟨T, 5, none⟩) (fun q => q rfl) _
  have ne : ∀ j, 5 ≠ j → (w.setCell ⟨T, 5, none⟩ (.int .i64 r)).cell? ⟨T, j, none⟩ = w.cell? ⟨T, j, none⟩ := fun j hij => World.cell?_setCell_other _ _ _ _ (fun q => by injection q with _ q2; omega)
  have M := h.tm.pm
  have eA := k.block A M.ltA M.nAB
  have p1 := h.p1
  have p0 := h.p0
  refine ⟨⟨⟨⟨by rw [ne 1 (by omega)]; exact M.c0, by rw [ne 2 (by omega)]; exact M.c1, by rw [ne 3 (by omega)]; exact M.c2, by rw [ne 4 (by omega)]; exact M.c3, M.sl.block eA, fun j => by rw [World.frozen?_of_block (w := w) eA]; exact M.fA j, Nat.lt_of_lt_of_le M.ltA k.size, Nat.lt_of_lt_of_le M.ltB k.size, M.pt.kept k (fun e => M.nBb e.symm) (fun e => M.nBa e.symm), M.nAB, M.nAb, M.nAa, M.nBb, M.nBa⟩,
    by rw [ne 0 (by omega)]; exact h.tm.c0, World.cell?_setCell_same _ _ _ h.tm.c5, by rw [ne 6 (by omega)]; exact h.tm.c6, fun j => by rw [World.frozen?_setCell]; exact h.tm.fz j⟩, ⟨vb, (hq.sets T 5 _ (.inr (.inl rfl))).more (by omega)⟩, h.nT, h.nA, h.nb, h.na, h.ti, h.iv, p0, by show t.pr ≤ _; omega⟩, (Keep.refl No w).set (p := ⟨T, 5, none⟩) h.nT _⟩
def tHint (t : TS) (n : Int) : TS := if 0 ≤ n ∧ n ≤ (t.p.n : Int) then { t with hint := n } else t
set_option maxRecDepth 20000 in
set_option maxHeartbeats 2000000 in
theorem hint_any {No : Nat → Prop} {w : World} {T A b a S hb c : Nat} {t : TS} {s : H.St} (h : TT No w T A b a S hb c t s) (n : Int) :
    Calls Tryz.prog 76 #[tp T, .int .i64 n] w fun e w' => e = .returned (.tuple #[]) ∧ TT No w' T A b a S hb (c + 1) (tHint t n) s ∧ Keep No w w' := by
  have c0 : w.cell? ⟨T, 1, none⟩ = some (.slice (some ⟨A, 0, none⟩) t.p.n t.p.n) := h.tm.pm.c0
  have c4 := h.tm.c5
  have fz := h.tm.fz
  have HH : Hid (TT No w T A b a S hb (c + 1) t s) := h.more (by omega)
  have HS : Hid (TT No (w.setCell ⟨T, 5, none⟩ (.int .i64 n)) T A b a S hb (c + 1) { t with hint := n } s ∧ Keep No w (w.setCell ⟨T, 5, none⟩ (.int .i64 n))) := h.hint n
  unfold tHint tp
  clear h
  by_cases h0 : 0 ≤ n
  · by_cases h1 : n ≤ (t.p.n : Int)
    · rw [if_pos ⟨h0, h1⟩]
      have g0 : decide (0 ≤ n) = true := by simp [h0]
      have g1 : decide (n ≤ (t.p.n : Int)) = true := by simp [h1]
      go_enter Tryz.func76, Tryz.ntmps76
      go_wp2_with fail
      go_end0
      exact ⟨rfl, HS.out⟩
    · rw [if_neg (fun q => h1 q.2)]
      have g0 : decide (0 ≤ n) = true := by simp [h0]
      have g1 : decide (n ≤ (t.p.n : Int)) = false := by simp [h1]
      go_enter Tryz.func76, Tryz.ntmps76
      go_wp2_with fail
      go_end0
      exact ⟨rfl, HH.out, Keep.refl _ _⟩
  · rw [if_neg (fun q => h0 q.1)]
    have g0 : decide (0 ≤ n) = false := by simp [h0]
    go_enter Tryz.func76, Tryz.ntmps76
    go_wp2_with fail
    go_end0
    exact ⟨rfl, HH.out, Keep.refl _ _⟩
end Go.Proofs.YtpmmploedkbeoaaGreatDoor
