/- The walk of end: of the work nothing is kept but how it ended. -/
import Derived.Test.YtcaaaoehipcloaaGreatCg17
import Derived.WalkSmall
namespace Go.Proofs.YtcaaaoehipcloaaGreat
open Go.RowKit

/-- The sorter's block behind its end. -/
def setE (w : World) (B T : Nat) (e : Int) : World := ((((((((((((((((((w.setCell ⟨B, 0, none⟩ (.pointer (some ⟨T, 0, none⟩))).setCell ⟨B, 1, none⟩ (.int .i64 0)).setCell ⟨B, 2, none⟩ (.int .i64 0)).setCell ⟨B, 3, none⟩ (.slice none 0 0)).setCell ⟨B, 4, none⟩ (.int .i64 6)).setCell ⟨B, 5, none⟩ (.int .i64 0)).setCell ⟨B, 6, none⟩ (.int .i64 0)).setCell ⟨B, 7, none⟩ (.int .i64 0)).setCell ⟨B, 8, none⟩ (.int .i64 0)).setCell ⟨B, 9, none⟩ (.int .i64 0)).setCell ⟨B, 10, none⟩ (.string ⟨#[]⟩)).setCell ⟨B, 11, none⟩ (.int .i64 0)).setCell ⟨B, 12, none⟩ (.int .i64 0)).setCell ⟨B, 13, none⟩ (.string ⟨#[]⟩)).setCell ⟨B, 14, none⟩ (.int .i64 0)).setCell ⟨B, 15, none⟩ (.int .i64 0)).setCell ⟨B, 16, none⟩ (.string ⟨#[]⟩)).setCell ⟨B, 17, none⟩ (.int .i64 e))
theorem setE_blk {w : World} {B T : Nat} {wv : Value} {s : SS} (h : w.heap[B]? = some (.cells (scl T wv s) 71 (0, 0))) (e : Int) : (setE w B T e).heap[B]? = some (.cells (scl T (.slice none 0 0) (endS e)) 71 (0, 0)) := by
  have h0 := blk_set (j := 0) h (.pointer (some ⟨T, 0, none⟩))
  have h1 := blk_set (j := 1) h0 (.int .i64 0)
  have h2 := blk_set (j := 2) h1 (.int .i64 0)
  have h3 := blk_set (j := 3) h2 (.slice none 0 0)
  have h4 := blk_set (j := 4) h3 (.int .i64 6)
  have h5 := blk_set (j := 5) h4 (.int .i64 0)
  have h6 := blk_set (j := 6) h5 (.int .i64 0)
  have h7 := blk_set (j := 7) h6 (.int .i64 0)
  have h8 := blk_set (j := 8) h7 (.int .i64 0)
  have h9 := blk_set (j := 9) h8 (.int .i64 0)
  have h10 := blk_set (j := 10) h9 (.string ⟨#[]⟩)
  have h11 := blk_set (j := 11) h10 (.int .i64 0)
  have h12 := blk_set (j := 12) h11 (.int .i64 0)
  have h13 := blk_set (j := 13) h12 (.string ⟨#[]⟩)
  have h14 := blk_set (j := 14) h13 (.int .i64 0)
  have h15 := blk_set (j := 15) h14 (.int .i64 0)
  have h16 := blk_set (j := 16) h15 (.string ⟨#[]⟩)
  have h17 := blk_set (j := 17) h16 (.int .i64 e)
  exact h17.trans (by simp [scl, endS, nil])
theorem setE_keep (w : World) (B T : Nat) (e : Int) (P : Nat → Prop) : Keep (fun g => g ≠ B ∧ P g) w (setE w B T e) := (((((((((((((((((((Keep.refl _ w).set (p := ⟨B, 0, none⟩) (fun q => q.1 rfl) _).set (p := ⟨B, 1, none⟩) (fun q => q.1 rfl) _).set (p := ⟨B, 2, none⟩) (fun q => q.1 rfl) _).set (p := ⟨B, 3, none⟩) (fun q => q.1 rfl) _).set (p := ⟨B, 4, none⟩) (fun q => q.1 rfl) _).set (p := ⟨B, 5, none⟩) (fun q => q.1 rfl) _).set (p := ⟨B, 6, none⟩) (fun q => q.1 rfl) _).set (p := ⟨B, 7, none⟩) (fun q => q.1 rfl) _).set (p := ⟨B, 8, none⟩) (fun q => q.1 rfl) _).set (p := ⟨B, 9, none⟩) (fun q => q.1 rfl) _).set (p := ⟨B, 10, none⟩) (fun q => q.1 rfl) _).set (p := ⟨B, 11, none⟩) (fun q => q.1 rfl) _).set (p := ⟨B, 12, none⟩) (fun q => q.1 rfl) _).set (p := ⟨B, 13, none⟩) (fun q => q.1 rfl) _).set (p := ⟨B, 14, none⟩) (fun q => q.1 rfl) _).set (p := ⟨B, 15, none⟩) (fun q => q.1 rfl) _).set (p := ⟨B, 16, none⟩) (fun q => q.1 rfl) _).set (p := ⟨B, 17, none⟩) (fun q => q.1 rfl) _)
theorem So.ends {No : Nat → Prop} {w W : World} {B : Nat} {wv : Value} {T A b a S hb c : Nat} {d : SD} (h : So No w B wv T A b a S hb c d) (k : Keep (fun g => g ≠ B ∧ g < w.heap.size) w W) (e : Int) (hb' : W.heap[B]? = some (.cells (scl T (.slice none 0 0) (endS e)) 71 (0, 0))) : So No W B (.slice none 0 0) T A b a S hb c (endD d e) ∧ Keep No w W := by
  refine ⟨⟨hb', World.ownsRow_nil _ _ _ _, ?_, h.nB, fun g q => by cases q⟩, ⟨k.os, k.tape, k.output, k.size, fun g hg q => k.block g hg ⟨fun e => h.nB (e ▸ q), hg⟩⟩⟩
  exact (h.tt.frame2 k.os k.tape k.output k.size (fun g hg hn => k.block g hg ⟨fun e => hn (.inr (.inl e)), hg⟩)).sub (fun g q => by
    rcases q with q | q | q
    · exact .inl (.inl q)
    · exact .inl (.inr (.inl q))
    · cases q)
set_option maxRecDepth 20000 in
set_option maxHeartbeats 4000000 in
theorem end_any {No : Nat → Prop} {w : World} {B : Nat} {wv : Value} {T A b a S hb c : Nat} {d : SD} (h : So No w B wv T A b a S hb c d) (e : Int) :
    Calls Tryz.prog 68 #[.pointer (some ⟨B, 0, none⟩), .int .i64 e] w fun en w' => en = .returned (tolV (endT e)) ∧ So No w' B (.slice none 0 0) T A b a S hb c (endD d e) ∧ Keep No w w' := by
  have B1 := b1 w (.cells #[.int .i64 0, .int .i64 0, .string ⟨#[]⟩, .int .i64 0, .int .i64 0, .string ⟨#[]⟩, .bool false, .int .i64 0] 73)
  have R0 := R8.made w
  obtain ⟨W0, hW0⟩ : ∃ W0, w.alloc (.cells #[.int .i64 0, .int .i64 0, .string ⟨#[]⟩, .int .i64 0, .int .i64 0, .string ⟨#[]⟩, .bool false, .int .i64 0] 73) = W0 := ⟨_, rfl⟩
  rw [hW0] at R0 B1
  have hs0 := h.below B1
  have hlt := h.lt
  have bB := setE_blk hs0.blk e
  have kB := setE_keep W0 B T e (fun _ => True)
  have a0 := hs0.cell (j := 0) (v := (.pointer (some ⟨T, 0, none⟩))) rfl
  have a1 := hs0.cell (j := 1) (v := (.int .i64 d.1.lo)) rfl
  have a2 := hs0.cell (j := 2) (v := (.int .i64 d.1.up)) rfl
  have a3 := hs0.cell (j := 3) (v := wv) rfl
  have a4 := hs0.cell (j := 4) (v := (.int .i64 d.1.ak)) rfl
  have a5 := hs0.cell (j := 5) (v := (.int .i64 d.1.p)) rfl
  have a6 := hs0.cell (j := 6) (v := (.int .i64 d.1.i)) rfl
  have a7 := hs0.cell (j := 7) (v := (.int .i64 d.1.j)) rfl
  have a8 := hs0.cell (j := 8) (v := (.int .i64 d.1.x.1)) rfl
  have a9 := hs0.cell (j := 9) (v := (.int .i64 d.1.x.2.1)) rfl
  have a10 := hs0.cell (j := 10) (v := (.string d.1.x.2.2)) rfl
  have a11 := hs0.cell (j := 11) (v := (.int .i64 d.1.y.1)) rfl
  have a12 := hs0.cell (j := 12) (v := (.int .i64 d.1.y.2.1)) rfl
  have a13 := hs0.cell (j := 13) (v := (.string d.1.y.2.2)) rfl
  have a14 := hs0.cell (j := 14) (v := (.int .i64 d.1.pv.1)) rfl
  have a15 := hs0.cell (j := 15) (v := (.int .i64 d.1.pv.2.1)) rfl
  have a16 := hs0.cell (j := 16) (v := (.string d.1.pv.2.2)) rfl
  have a17 := hs0.cell (j := 17) (v := (.int .i64 d.1.er)) rfl
  have hfr := hs0.free
  obtain ⟨W1, hW1⟩ : ∃ W1, setE W0 B T e = W1 := ⟨_, rfl⟩
  rw [hW1] at bB kB
  have R1 := R0.kept kB ⟨by omega, trivial⟩
  have R2 := R1.set (endT e)
  have k8 : Keep (fun g => g ≠ w.heap.size) W1 (set8 W1 w.heap.size (endT e)) := (Keep.refl _ W1).set8 (fun q => q rfl) _
  have kA : Keep (fun g => g ≠ B ∧ g < w.heap.size) w (set8 W1 w.heap.size (endT e)) := ((Keep.of B1).trans (kB.sub (fun g q => ⟨q.1, trivial⟩))).trans (k8.sub (fun g q => by have := q.2; show g ≠ w.heap.size; omega))
  have bF : (set8 W1 w.heap.size (endT e)).heap[B]? = some (.cells (scl T (.slice none 0 0) (endS e)) 71 (0, 0)) := by
    have hB1 : B < W1.heap.size := (Array.getElem?_eq_some_iff.1 bB).1
    rw [k8.block B hB1 (by show B ≠ w.heap.size; omega), bB]
  have HZ : Hid (_ ∧ _) := h.ends kA e bF
  have HR : Hid (R8 (set8 W1 w.heap.size (endT e)) w.heap.size (endT e)) := R2
  obtain ⟨W2, hW2⟩ : ∃ W2, set8 W1 w.heap.size (endT e) = W2 := ⟨_, rfl⟩
  rw [hW2] at HZ HR
  unfold set8 endT nil at hW2
  unfold setE at hW1
  have e0 : W1.cell? ⟨w.heap.size, 0, none⟩ = some (.int .i64 0) := R1.cell (j := 0) rfl
  have e1 : W1.cell? ⟨w.heap.size, 1, none⟩ = some (.int .i64 0) := R1.cell (j := 1) rfl
  have e2 : W1.cell? ⟨w.heap.size, 2, none⟩ = some (.string ⟨#[]⟩) := R1.cell (j := 2) rfl
  have e3 : W1.cell? ⟨w.heap.size, 3, none⟩ = some (.int .i64 0) := R1.cell (j := 3) rfl
  have e4 : W1.cell? ⟨w.heap.size, 4, none⟩ = some (.int .i64 0) := R1.cell (j := 4) rfl
  have e5 : W1.cell? ⟨w.heap.size, 5, none⟩ = some (.string ⟨#[]⟩) := R1.cell (j := 5) rfl
  have e6 : W1.cell? ⟨w.heap.size, 6, none⟩ = some (.bool false) := R1.cell (j := 6) rfl
  have e7 : W1.cell? ⟨w.heap.size, 7, none⟩ = some (.int .i64 0) := R1.cell (j := 7) rfl
  have ef := fun j => R1.free j
  clear B1 R0 R1 R2 hs0 kA kB k8 bB bF hlt h
  go_enter Tryz.func68, Tryz.ntmps68
  go_wp2
  have r0 : W2.cell? ⟨w.heap.size, 0, none⟩ = some (.int .i64 0) := HR.out.cell (j := 0) rfl
  have r1 : W2.cell? ⟨w.heap.size, 1, none⟩ = some (.int .i64 0) := HR.out.cell (j := 1) rfl
  have r2 : W2.cell? ⟨w.heap.size, 2, none⟩ = some (.string ⟨#[]⟩) := HR.out.cell (j := 2) rfl
  have r3 : W2.cell? ⟨w.heap.size, 3, none⟩ = some (.int .i64 0) := HR.out.cell (j := 3) rfl
  have r4 : W2.cell? ⟨w.heap.size, 4, none⟩ = some (.int .i64 0) := HR.out.cell (j := 4) rfl
  have r5 : W2.cell? ⟨w.heap.size, 5, none⟩ = some (.string ⟨#[]⟩) := HR.out.cell (j := 5) rfl
  have r6 : W2.cell? ⟨w.heap.size, 6, none⟩ = some (.bool false) := HR.out.cell (j := 6) rfl
  have r7 : W2.cell? ⟨w.heap.size, 7, none⟩ = some (.int .i64 e) := HR.out.cell (j := 7) rfl
  exact bodyPost_ret (v := tolV (endT e)) (by simp [results, Tryz.results68, go_sem, r0, r1, r2, r3, r4, r5, r6, r7, tolV, endT, nil]) rfl ⟨rfl, HZ.out.1, HZ.out.2⟩
end Go.Proofs.YtcaaaoehipcloaaGreat

/- The sorter among new blocks; the walk of rise. -/
namespace Go.Proofs.YtcaaaoehipcloaaGreat
open Go.RowKit

/-- New blocks are others' blocks, too. -/
theorem So.news {No : Nat → Prop} {w W : World} {B : Nat} {wv : Value} {T A b a S hb c : Nat} {d : SD} (h : So No w B wv T A b a S hb c d) (k : Below w.heap.size w W) : So (fun g => No g ∨ (w.heap.size ≤ g ∧ g < W.heap.size)) W B wv T A b a S hb c d := by
  have hs := h.below k
  have hl := h.lt
  refine ⟨hs.blk, hs.row, (h.tt.news k).sub (fun g q => ?_), fun q => q.elim h.nB (by omega), fun g e q => q.elim (h.nW g e) (fun z => by have := (h.row.lt g e).2; omega)⟩
  rcases q with (q | q) | q | q
  · exact .inl (.inl q)
  · exact .inr q
  · exact .inl (.inr (.inl q))
  · exact .inl (.inr (.inr q))
theorem So.drew {No : Nat → Prop} {w : World} {B : Nat} {wv : Value} {T A b a S hb c : Nat} {d : SD} (h : So No w B wv T A b a S hb c d) : So No w.drew B wv T A b a S hb c d := h.below (bdrew1 w)
/-- A block of others may change. -/
theorem So.out {No No2 : Nat → Prop} {w W : World} {B : Nat} {wv : Value} {T A b a S hb c : Nat} {d : SD} (h : So No2 w B wv T A b a S hb c d) (hn : ∀ g, No g → No2 g) (k : Keep (fun g => ¬ No2 g) w W) : So No W B wv T A b a S hb c d := by
  refine ⟨(k.block B h.lt h.nB).trans h.blk, ?_, ?_, fun q => h.nB (hn _ q), fun g e q => h.nW g e (hn _ q)⟩
  · have hlt := h.row.lt
    refine ⟨h.row.1, ?_⟩
    rcases h.row.2 with h2 | ⟨g, cap, cur, e, h2, h3, r⟩
    · exact .inl h2
    · have e' : wv.ownBlock = some g := by rw [e]; rfl
      exact .inr ⟨g, cap, cur, e, h2, (k.block g (hlt g e').2 (h.nW g e')).trans h3, r⟩
  · refine (h.tt.frame2 k.os k.tape k.output k.size (fun g hg q => k.block g hg (fun z => q (.inl z)))).sub (fun g q => .inl ?_)
    rcases q with q | q | q
    · exact .inl (hn _ q)
    · exact .inr (.inl q)
    · exact .inr (.inr q)
/-- A value stored into three cells of the sorter. -/
def stX (w : World) (B j : Nat) (x : V) : World := ((w.setCell ⟨B, j, none⟩ (.int .i64 x.1)).setCell ⟨B, j + 1, none⟩ (.int .i64 x.2.1)).setCell ⟨B, j + 2, none⟩ (.string x.2.2)
theorem stX_blk {w : World} {B : Nat} {cur : Array Value} {t : TypeId} (h : w.heap[B]? = some (.cells cur t (0, 0))) (j : Nat) (x : V) : (stX w B j x).heap[B]? = some (.cells (((cur.setIfInBounds j (.int .i64 x.1)).setIfInBounds (j + 1) (.int .i64 x.2.1)).setIfInBounds (j + 2) (.string x.2.2)) t (0, 0)) := blk_set (blk_set (blk_set h _) _) _
theorem stX_keep (w : World) (B j : Nat) (x : V) : Keep (fun g => g ≠ B) w (stX w B j x) := (((Keep.refl _ w).set (p := ⟨B, j, none⟩) (fun q => q rfl) _).set (p := ⟨B, j + 1, none⟩) (fun q => q rfl) _).set (p := ⟨B, j + 2, none⟩) (fun q => q rfl) _
set_option maxRecDepth 20000 in
set_option maxHeartbeats 4000000 in
theorem rise_any {No : Nat → Prop} {w : World} {B : Nat} {wv : Value} {T A b a S hb c : Nat} {d : SD} (h : So No w B wv T A b a S hb c d) (hc : c ≤ 900000) (h1 : -4611686018427387904 ≤ d.1.i) (h2 : d.1.i ≤ 4611686018427387904) :
    Calls Tryz.prog 74 #[.pointer (some ⟨B, 0, none⟩)] w fun e w' => e = .returned (tolV (riseR d).2) ∧ So No w' B wv T A b a S hb (c + 1) (riseR d).1 ∧ Keep No w w' := by
  have B1 := b1 w (.cells #[.int .i64 0, .int .i64 0, .string ⟨#[]⟩, .int .i64 0, .int .i64 0, .string ⟨#[]⟩, .bool false, .int .i64 0] 73)
  have R0 := R8.made w
  have z0 : (w.alloc (.cells #[.int .i64 0, .int .i64 0, .string ⟨#[]⟩, .int .i64 0, .int .i64 0, .string ⟨#[]⟩, .bool false, .int .i64 0] 73)).heap.size = w.heap.size + 1 := by simp
  obtain ⟨W0, hW0⟩ : ∃ W0, w.alloc (.cells #[.int .i64 0, .int .i64 0, .string ⟨#[]⟩, .int .i64 0, .int .i64 0, .string ⟨#[]⟩, .bool false, .int .i64 0] 73) = W0 := ⟨_, rfl⟩
  rw [hW0] at R0 B1 z0
  have hlt := h.lt
  have HNo : Hid ((∀ g, No g → g < w.heap.size) ∧ ¬ No B) := ⟨fun g q => by
    obtain ⟨vb, hp⟩ := h.tt.hp
    exact hp.nos _ (.inl (.inl q)), h.nB⟩
  have s0 := h.news B1
  obtain ⟨N2, hN2⟩ : ∃ N2, (fun g => No g ∨ (w.heap.size ≤ g ∧ g < W0.heap.size)) = N2 := ⟨_, rfl⟩
  have HN : Hid ((∀ g, No g → N2 g) ∧ N2 w.heap.size ∧ (∀ g, N2 g → No g ∨ w.heap.size ≤ g)) := by
    subst hN2
    exact ⟨fun g q => .inl q, .inr ⟨Nat.le_refl _, by omega⟩, fun g q => q.imp id (fun z => z.1)⟩
  rw [hN2] at s0
  clear hN2
  have a6 : W0.cell? ⟨B, 6, none⟩ = some (.int .i64 d.1.i) := s0.cell (j := 6) rfl
  have f0 := s0.free
  have k1 : Keep (fun g => g ≠ B) W0 (W0.setCell ⟨B, 6, none⟩ (.int .i64 (d.1.i + 1))) := (Keep.refl _ W0).set (p := ⟨B, 6, none⟩) (fun q => q rfl) _
  have s1 := s0.to (k1.sub (fun g q => q.1)) { d.1 with i := d.1.i + 1 } ((blk_set (j := 6) s0.blk (.int .i64 (d.1.i + 1))).trans rfl) rfl
  obtain ⟨W1, hW1⟩ : ∃ W1, W0.setCell ⟨B, 6, none⟩ (.int .i64 (d.1.i + 1)) = W1 := ⟨_, rfl⟩
  rw [hW1] at k1 s1
  have R1 := R0.kept k1 (by show w.heap.size ≠ B; omega)
  have a6' : W1.cell? ⟨B, 6, none⟩ = some (.int .i64 (d.1.i + 1)) := s1.1.cell (j := 6) rfl
  have CR := read_any s1.1 hc (d.1.i + 1) (by omega) (by omega)
  obtain ⟨x, hx⟩ : ∃ x, rdV ({ d.1 with i := d.1.i + 1 }, d.2) (d.1.i + 1) = x := ⟨_, rfl⟩
  rw [hx] at CR
  have HX : Hid (rdV ({ d.1 with i := d.1.i + 1 }, d.2) (d.1.i + 1) = x) := hx
  have HR1 : Hid (R8 W1 w.heap.size (nil, nil, false, 0)) := R1
  have HK : Hid (Keep No w W1) := ⟨s1.2.os.trans B1.os, s1.2.tape.trans B1.tape, s1.2.output.trans B1.output, Nat.le_trans B1.size s1.2.size, fun g hg q => (s1.2.block g (by omega) (HN.out.1 g q)).trans (B1.block g hg)⟩
  have wi : IntKind.i64.wrap (d.1.i + 1) = d.1.i + 1 := by rw [IntKind.wrap_i64]; omega
  unfold vv vl at CR
  clear hx s0 s1 k1 R0 R1 B1 z0 h
  go_enter Tryz.func74, Tryz.ntmps74
  go_wp2_with fail
  refine CR.mono ?_
  rintro e w2 ⟨rfl, s2, k2⟩
  have b8 : w2.cell? ⟨B, 8, none⟩ = some (.int .i64 d.1.x.1) := s2.cell (j := 8) rfl
  have b9 : w2.cell? ⟨B, 9, none⟩ = some (.int .i64 d.1.x.2.1) := s2.cell (j := 9) rfl
  have b10 : w2.cell? ⟨B, 10, none⟩ = some (.string d.1.x.2.2) := s2.cell (j := 10) rfl
  have f2 := s2.free
  have k3 := stX_keep w2 B 8 x
  have s3 := s2.to (k3.sub (fun g q => q.1)) { d.1 with i := d.1.i + 1, x := x } ((stX_blk s2.blk 8 x).trans rfl) rfl
  have R2 := (HR1.out.kept k2 (.inl HN.out.2.1)).kept k3 (by show w.heap.size ≠ B; omega)
  obtain ⟨W3, hW3⟩ : ∃ W3, stX w2 B 8 x = W3 := ⟨_, rfl⟩
  rw [hW3] at k3 s3 R2
  unfold stX at hW3
  have CA := ask_any s3.1.drew 4 x d.1.pv
  have e8 : W3.cell? ⟨B, 8, none⟩ = some (.int .i64 x.1) := s3.1.cell (j := 8) rfl
  have e9 : W3.cell? ⟨B, 9, none⟩ = some (.int .i64 x.2.1) := s3.1.cell (j := 9) rfl
  have e10 : W3.cell? ⟨B, 10, none⟩ = some (.string x.2.2) := s3.1.cell (j := 10) rfl
  have e14 : W3.cell? ⟨B, 14, none⟩ = some (.int .i64 d.1.pv.1) := s3.1.cell (j := 14) rfl
  have e15 : W3.cell? ⟨B, 15, none⟩ = some (.int .i64 d.1.pv.2.1) := s3.1.cell (j := 15) rfl
  have e16 : W3.cell? ⟨B, 16, none⟩ = some (.string d.1.pv.2.2) := s3.1.cell (j := 16) rfl
  have HK3 : Hid (Keep No w W3) := (HK.out.trans (k2.sub (fun g q => .inl (HN.out.1 g q)))).trans (k3.sub (fun g q e => HNo.out.2 (e ▸ q)))
  have HR3 : Hid (R8 W3 w.heap.size (nil, nil, false, 0)) := R2
  have HF : Hid (∀ w4, Keep N2 W3.drew w4 → So N2 w4 B wv T A b a S hb (c + 1) (riseR d).1 → R8 w4 w.heap.size (nil, nil, false, 0) ∧ R8 (set8 w4 w.heap.size (riseR d).2) w.heap.size (riseR d).2 ∧ So No (set8 w4 w.heap.size (riseR d).2) B wv T A b a S hb (c + 1) (riseR d).1 ∧ Keep No w (set8 w4 w.heap.size (riseR d).2)) := fun w4 k4 s4 => by
    have K4 : Keep N2 W3 w4 := ((Keep.refl N2 W3).drew).trans k4
    have r4 := HR3.out.kept K4 HN.out.2.1
    refine ⟨r4, r4.set _, s4.out HN.out.1 ((Keep.refl _ w4).set8 (fun q => q HN.out.2.1) _), ?_⟩
    exact (HK3.out.trans (K4.sub HN.out.1)).set8 (fun q => by have := HNo.out.1 _ q; omega) _
  have hT : (riseR d).2 = askT x d.1.pv := by
    unfold riseR
    simp only [HX.out]
    rfl
  have hD : (riseR d).1 = askD ({ d.1 with i := d.1.i + 1, x := x }, (rdD ({ d.1 with i := d.1.i + 1 }, d.2) (d.1.i + 1)).2) 4 := by
    unfold riseR
    simp only [HX.out]
    rfl
  rw [← hD] at CA
  unfold vv vl at CA
  clear hD s2 s3 k2 k3 R2 CR HR1 HR3 HK HK3 a6 a6' f0 HX
  go_wp2_with fail
  refine wp_tail 9 (by kernel_rfl) (by kernel_rfl) ?_
  simp only [List.take_succ_cons, List.take_zero, List.drop_succ_cons, List.drop_zero]
  repeat still_step
  refine wpStill_nil ?_
  go_wp2_with fail
  refine CA.mono ?_
  rintro e w4 ⟨rfl, s4, k4⟩
  obtain ⟨r4, r5, s5, k5⟩ := HF.out w4 k4 s4
  rw [hT] at r5 s5 k5
  have HZ : Hid (_ ∧ _ ∧ _) := ⟨r5, s5, k5⟩
  obtain ⟨W5, hW5⟩ : ∃ W5, set8 w4 w.heap.size (askT x d.1.pv) = W5 := ⟨_, rfl⟩
  rw [hW5] at HZ
  unfold set8 askT at hW5
  unfold tolV askT
  have n0 : w4.cell? ⟨w.heap.size, 0, none⟩ = some (.int .i64 0) := r4.cell (j := 0) rfl
  have n1 : w4.cell? ⟨w.heap.size, 1, none⟩ = some (.int .i64 0) := r4.cell (j := 1) rfl
  have n2 : w4.cell? ⟨w.heap.size, 2, none⟩ = some (.string ⟨#[]⟩) := r4.cell (j := 2) rfl
  have n3 : w4.cell? ⟨w.heap.size, 3, none⟩ = some (.int .i64 0) := r4.cell (j := 3) rfl
  have n4 : w4.cell? ⟨w.heap.size, 4, none⟩ = some (.int .i64 0) := r4.cell (j := 4) rfl
  have n5 : w4.cell? ⟨w.heap.size, 5, none⟩ = some (.string ⟨#[]⟩) := r4.cell (j := 5) rfl
  have n6 : w4.cell? ⟨w.heap.size, 6, none⟩ = some (.bool false) := r4.cell (j := 6) rfl
  have n7 : w4.cell? ⟨w.heap.size, 7, none⟩ = some (.int .i64 0) := r4.cell (j := 7) rfl
  have nf := fun j => r4.free j
  clear r4 r5 s5 k5 s4 k4 HF CA e8 e9 e10 e14 e15 e16
  go_wp2
  obtain ⟨q1, q2, q3⟩ := HZ.out
  have r0 : W5.cell? ⟨w.heap.size, 0, none⟩ = some (.int .i64 x.1) := q1.cell (j := 0) rfl
  have r1 : W5.cell? ⟨w.heap.size, 1, none⟩ = some (.int .i64 x.2.1) := q1.cell (j := 1) rfl
  have r2 : W5.cell? ⟨w.heap.size, 2, none⟩ = some (.string x.2.2) := q1.cell (j := 2) rfl
  have r3 : W5.cell? ⟨w.heap.size, 3, none⟩ = some (.int .i64 d.1.pv.1) := q1.cell (j := 3) rfl
  have r4 : W5.cell? ⟨w.heap.size, 4, none⟩ = some (.int .i64 d.1.pv.2.1) := q1.cell (j := 4) rfl
  have r5 : W5.cell? ⟨w.heap.size, 5, none⟩ = some (.string d.1.pv.2.2) := q1.cell (j := 5) rfl
  have r6 : W5.cell? ⟨w.heap.size, 6, none⟩ = some (.bool true) := q1.cell (j := 6) rfl
  have r7 : W5.cell? ⟨w.heap.size, 7, none⟩ = some (.int .i64 0) := q1.cell (j := 7) rfl
  exact bodyPost_ret (v := tolV (askT x d.1.pv)) (by simp [results, Tryz.results74, go_sem, r0, r1, r2, r3, r4, r5, r6, r7, tolV, askT]) rfl ⟨by rw [hT], q2, q3⟩
end Go.Proofs.YtcaaaoehipcloaaGreat

/- The walk of fall. -/
namespace Go.Proofs.YtcaaaoehipcloaaGreat
open Go.RowKit

set_option maxRecDepth 20000 in
set_option maxHeartbeats 4000000 in
theorem fall_any {No : Nat → Prop} {w : World} {B : Nat} {wv : Value} {T A b a S hb c : Nat} {d : SD} (h : So No w B wv T A b a S hb c d) (hc : c ≤ 900000) (h1 : -4611686018427387904 ≤ d.1.j) (h2 : d.1.j ≤ 4611686018427387904) :
    Calls Tryz.prog 73 #[.pointer (some ⟨B, 0, none⟩)] w fun e w' => e = .returned (tolV (fallR d).2) ∧ So No w' B wv T A b a S hb (c + 1) (fallR d).1 ∧ Keep No w w' := by
  have B1 := b1 w (.cells #[.int .i64 0, .int .i64 0, .string ⟨#[]⟩, .int .i64 0, .int .i64 0, .string ⟨#[]⟩, .bool false, .int .i64 0] 73)
  have R0 := R8.made w
  have z0 : (w.alloc (.cells #[.int .i64 0, .int .i64 0, .string ⟨#[]⟩, .int .i64 0, .int .i64 0, .string ⟨#[]⟩, .bool false, .int .i64 0] 73)).heap.size = w.heap.size + 1 := by simp
  obtain ⟨W0, hW0⟩ : ∃ W0, w.alloc (.cells #[.int .i64 0, .int .i64 0, .string ⟨#[]⟩, .int .i64 0, .int .i64 0, .string ⟨#[]⟩, .bool false, .int .i64 0] 73) = W0 := ⟨_, rfl⟩
  rw [hW0] at R0 B1 z0
  have hlt := h.lt
  have HNo : Hid ((∀ g, No g → g < w.heap.size) ∧ ¬ No B) := ⟨fun g q => by
    obtain ⟨vb, hp⟩ := h.tt.hp
    exact hp.nos _ (.inl (.inl q)), h.nB⟩
  have s0 := h.news B1
  obtain ⟨N2, hN2⟩ : ∃ N2, (fun g => No g ∨ (w.heap.size ≤ g ∧ g < W0.heap.size)) = N2 := ⟨_, rfl⟩
  have HN : Hid ((∀ g, No g → N2 g) ∧ N2 w.heap.size ∧ (∀ g, N2 g → No g ∨ w.heap.size ≤ g)) := by
    subst hN2
    exact ⟨fun g q => .inl q, .inr ⟨Nat.le_refl _, by omega⟩, fun g q => q.imp id (fun z => z.1)⟩
  rw [hN2] at s0
  clear hN2
  have a6 : W0.cell? ⟨B, 7, none⟩ = some (.int .i64 d.1.j) := s0.cell (j := 7) rfl
  have f0 := s0.free
  have k1 : Keep (fun g => g ≠ B) W0 (W0.setCell ⟨B, 7, none⟩ (.int .i64 (d.1.j - 1))) := (Keep.refl _ W0).set (p := ⟨B, 7, none⟩) (fun q => q rfl) _
  have s1 := s0.to (k1.sub (fun g q => q.1)) { d.1 with j := d.1.j - 1 } ((blk_set (j := 7) s0.blk (.int .i64 (d.1.j - 1))).trans rfl) rfl
  obtain ⟨W1, hW1⟩ : ∃ W1, W0.setCell ⟨B, 7, none⟩ (.int .i64 (d.1.j - 1)) = W1 := ⟨_, rfl⟩
  rw [hW1] at k1 s1
  have R1 := R0.kept k1 (by show w.heap.size ≠ B; omega)
  have a6' : W1.cell? ⟨B, 7, none⟩ = some (.int .i64 (d.1.j - 1)) := s1.1.cell (j := 7) rfl
  have CR := read_any s1.1 hc (d.1.j - 1) (by omega) (by omega)
  obtain ⟨x, hx⟩ : ∃ x, rdV ({ d.1 with j := d.1.j - 1 }, d.2) (d.1.j - 1) = x := ⟨_, rfl⟩
  rw [hx] at CR
  have HX : Hid (rdV ({ d.1 with j := d.1.j - 1 }, d.2) (d.1.j - 1) = x) := hx
  have HR1 : Hid (R8 W1 w.heap.size (nil, nil, false, 0)) := R1
  have HK : Hid (Keep No w W1) := ⟨s1.2.os.trans B1.os, s1.2.tape.trans B1.tape, s1.2.output.trans B1.output, Nat.le_trans B1.size s1.2.size, fun g hg q => (s1.2.block g (by omega) (HN.out.1 g q)).trans (B1.block g hg)⟩
  have wi : IntKind.i64.wrap (d.1.j - 1) = d.1.j - 1 := by rw [IntKind.wrap_i64]; omega
  unfold vv vl at CR
  clear hx s0 s1 k1 R0 R1 B1 z0 h
  go_enter Tryz.func73, Tryz.ntmps73
  go_wp2_with fail
  refine CR.mono ?_
  rintro e w2 ⟨rfl, s2, k2⟩
  have b8 : w2.cell? ⟨B, 11, none⟩ = some (.int .i64 d.1.y.1) := s2.cell (j := 11) rfl
  have b9 : w2.cell? ⟨B, 12, none⟩ = some (.int .i64 d.1.y.2.1) := s2.cell (j := 12) rfl
  have b10 : w2.cell? ⟨B, 13, none⟩ = some (.string d.1.y.2.2) := s2.cell (j := 13) rfl
  have f2 := s2.free
  have k3 := stX_keep w2 B 11 x
  have s3 := s2.to (k3.sub (fun g q => q.1)) { d.1 with j := d.1.j - 1, y := x } ((stX_blk s2.blk 11 x).trans rfl) rfl
  have R2 := (HR1.out.kept k2 (.inl HN.out.2.1)).kept k3 (by show w.heap.size ≠ B; omega)
  obtain ⟨W3, hW3⟩ : ∃ W3, stX w2 B 11 x = W3 := ⟨_, rfl⟩
  rw [hW3] at k3 s3 R2
  unfold stX at hW3
  have CA := ask_any s3.1.drew 5 d.1.pv x
  have e8 : W3.cell? ⟨B, 11, none⟩ = some (.int .i64 x.1) := s3.1.cell (j := 11) rfl
  have e9 : W3.cell? ⟨B, 12, none⟩ = some (.int .i64 x.2.1) := s3.1.cell (j := 12) rfl
  have e10 : W3.cell? ⟨B, 13, none⟩ = some (.string x.2.2) := s3.1.cell (j := 13) rfl
  have e14 : W3.cell? ⟨B, 14, none⟩ = some (.int .i64 d.1.pv.1) := s3.1.cell (j := 14) rfl
  have e15 : W3.cell? ⟨B, 15, none⟩ = some (.int .i64 d.1.pv.2.1) := s3.1.cell (j := 15) rfl
  have e16 : W3.cell? ⟨B, 16, none⟩ = some (.string d.1.pv.2.2) := s3.1.cell (j := 16) rfl
  have HK3 : Hid (Keep No w W3) := (HK.out.trans (k2.sub (fun g q => .inl (HN.out.1 g q)))).trans (k3.sub (fun g q e => HNo.out.2 (e ▸ q)))
  have HR3 : Hid (R8 W3 w.heap.size (nil, nil, false, 0)) := R2
  have HF : Hid (∀ w4, Keep N2 W3.drew w4 → So N2 w4 B wv T A b a S hb (c + 1) (fallR d).1 → R8 w4 w.heap.size (nil, nil, false, 0) ∧ R8 (set8 w4 w.heap.size (fallR d).2) w.heap.size (fallR d).2 ∧ So No (set8 w4 w.heap.size (fallR d).2) B wv T A b a S hb (c + 1) (fallR d).1 ∧ Keep No w (set8 w4 w.heap.size (fallR d).2)) := fun w4 k4 s4 => by
    have K4 : Keep N2 W3 w4 := ((Keep.refl N2 W3).drew).trans k4
    have r4 := HR3.out.kept K4 HN.out.2.1
    refine ⟨r4, r4.set _, s4.out HN.out.1 ((Keep.refl _ w4).set8 (fun q => q HN.out.2.1) _), ?_⟩
    exact (HK3.out.trans (K4.sub HN.out.1)).set8 (fun q => by have := HNo.out.1 _ q; omega) _
  have hT : (fallR d).2 = askT d.1.pv x := by
    unfold fallR
    simp only [HX.out]
    rfl
  have hD : (fallR d).1 = askD ({ d.1 with j := d.1.j - 1, y := x }, (rdD ({ d.1 with j := d.1.j - 1 }, d.2) (d.1.j - 1)).2) 5 := by
    unfold fallR
    simp only [HX.out]
    rfl
  rw [← hD] at CA
  unfold vv vl at CA
  clear hD s2 s3 k2 k3 R2 CR HR1 HR3 HK HK3 a6 a6' f0 HX
  go_wp2_with fail
  refine wp_tail 9 (by kernel_rfl) (by kernel_rfl) ?_
  simp only [List.take_succ_cons, List.take_zero, List.drop_succ_cons, List.drop_zero]
  repeat still_step
  refine wpStill_nil ?_
  go_wp2_with fail
  refine CA.mono ?_
  rintro e w4 ⟨rfl, s4, k4⟩
  obtain ⟨r4, r5, s5, k5⟩ := HF.out w4 k4 s4
  rw [hT] at r5 s5 k5
  have HZ : Hid (_ ∧ _ ∧ _) := ⟨r5, s5, k5⟩
  obtain ⟨W5, hW5⟩ : ∃ W5, set8 w4 w.heap.size (askT d.1.pv x) = W5 := ⟨_, rfl⟩
  rw [hW5] at HZ
  unfold set8 askT at hW5
  unfold tolV askT
  have n0 : w4.cell? ⟨w.heap.size, 0, none⟩ = some (.int .i64 0) := r4.cell (j := 0) rfl
  have n1 : w4.cell? ⟨w.heap.size, 1, none⟩ = some (.int .i64 0) := r4.cell (j := 1) rfl
  have n2 : w4.cell? ⟨w.heap.size, 2, none⟩ = some (.string ⟨#[]⟩) := r4.cell (j := 2) rfl
  have n3 : w4.cell? ⟨w.heap.size, 3, none⟩ = some (.int .i64 0) := r4.cell (j := 3) rfl
  have n4 : w4.cell? ⟨w.heap.size, 4, none⟩ = some (.int .i64 0) := r4.cell (j := 4) rfl
  have n5 : w4.cell? ⟨w.heap.size, 5, none⟩ = some (.string ⟨#[]⟩) := r4.cell (j := 5) rfl
  have n6 : w4.cell? ⟨w.heap.size, 6, none⟩ = some (.bool false) := r4.cell (j := 6) rfl
  have n7 : w4.cell? ⟨w.heap.size, 7, none⟩ = some (.int .i64 0) := r4.cell (j := 7) rfl
  have nf := fun j => r4.free j
  clear r4 r5 s5 k5 s4 k4 HF CA e8 e9 e10 e14 e15 e16
  go_wp2
  obtain ⟨q1, q2, q3⟩ := HZ.out
  have r0 : W5.cell? ⟨w.heap.size, 0, none⟩ = some (.int .i64 d.1.pv.1) := q1.cell (j := 0) rfl
  have r1 : W5.cell? ⟨w.heap.size, 1, none⟩ = some (.int .i64 d.1.pv.2.1) := q1.cell (j := 1) rfl
  have r2 : W5.cell? ⟨w.heap.size, 2, none⟩ = some (.string d.1.pv.2.2) := q1.cell (j := 2) rfl
  have r3 : W5.cell? ⟨w.heap.size, 3, none⟩ = some (.int .i64 x.1) := q1.cell (j := 3) rfl
  have r4 : W5.cell? ⟨w.heap.size, 4, none⟩ = some (.int .i64 x.2.1) := q1.cell (j := 4) rfl
  have r5 : W5.cell? ⟨w.heap.size, 5, none⟩ = some (.string x.2.2) := q1.cell (j := 5) rfl
  have r6 : W5.cell? ⟨w.heap.size, 6, none⟩ = some (.bool true) := q1.cell (j := 6) rfl
  have r7 : W5.cell? ⟨w.heap.size, 7, none⟩ = some (.int .i64 0) := q1.cell (j := 7) rfl
  exact bodyPost_ret (v := tolV (askT d.1.pv x)) (by simp [results, Tryz.results73, go_sem, r0, r1, r2, r3, r4, r5, r6, r7, tolV, askT]) rfl ⟨by rw [hT], q2, q3⟩
end Go.Proofs.YtcaaaoehipcloaaGreat

/- A callee's answer handed on; the walk of afterRising. -/
namespace Go.Proofs.YtcaaaoehipcloaaGreat
open Go.RowKit

abbrev z8 : Obj := .cells #[.int .i64 0, .int .i64 0, .string ⟨#[]⟩, .int .i64 0, .int .i64 0, .string ⟨#[]⟩, .bool false, .int .i64 0] 73
/-- The answer's block among others' blocks; behind a callee the answer is stored into it. -/
theorem So.tell {No : Nat → Prop} {w : World} {B : Nat} {wv : Value} {T A b a S hb c : Nat} {d : SD} (h : So No w B wv T A b a S hb c d) :
    ∃ N2 : Nat → Prop, So N2 (w.alloc z8) B wv T A b a S hb c d ∧ ∀ w4 wv' A' b' a' c' d' (tl : Tol), Keep N2 (w.alloc z8) w4 → So N2 w4 B wv' T A' b' a' S hb c' d' →
      R8 w4 w.heap.size (nil, nil, false, 0) ∧ R8 (set8 w4 w.heap.size tl) w.heap.size tl ∧ So No (set8 w4 w.heap.size tl) B wv' T A' b' a' S hb c' d' ∧ Keep No w (set8 w4 w.heap.size tl) := by
  have B1 := b1 w z8
  have R0 := R8.made w
  have z0 : (w.alloc z8).heap.size = w.heap.size + 1 := by simp
  have hNo : ∀ g, No g → g < w.heap.size := fun g q => by
    obtain ⟨vb, hp⟩ := h.tt.hp
    exact hp.nos _ (.inl (.inl q))
  refine ⟨_, h.news B1, fun w4 wv' A' b' a' c' d' tl k4 s4 => ?_⟩
  have hn : (fun g => No g ∨ (w.heap.size ≤ g ∧ g < (w.alloc z8).heap.size)) w.heap.size := .inr ⟨Nat.le_refl _, by omega⟩
  have r4 := R0.kept k4 hn
  refine ⟨r4, r4.set _, s4.out (fun g q => .inl q) ((Keep.refl _ w4).set8 (fun q => q hn) _), ?_⟩
  exact ((Keep.of B1).trans (k4.sub (fun g q => .inl q))).set8 (fun q => by have := hNo _ q; omega) _
theorem R8.eight {w : World} {N : Nat} {t : Tol} (h : R8 w N t) : w.cell? ⟨N, 0, none⟩ = some (.int .i64 t.1.1) ∧ w.cell? ⟨N, 1, none⟩ = some (.int .i64 t.1.2.1) ∧ w.cell? ⟨N, 2, none⟩ = some (.string t.1.2.2) ∧ w.cell? ⟨N, 3, none⟩ = some (.int .i64 t.2.1.1) ∧ w.cell? ⟨N, 4, none⟩ = some (.int .i64 t.2.1.2.1) ∧ w.cell? ⟨N, 5, none⟩ = some (.string t.2.1.2.2) ∧ w.cell? ⟨N, 6, none⟩ = some (.bool t.2.2.1) ∧ w.cell? ⟨N, 7, none⟩ = some (.int .i64 t.2.2.2) :=
  ⟨h.cell (j := 0) rfl, h.cell (j := 1) rfl, h.cell (j := 2) rfl, h.cell (j := 3) rfl, h.cell (j := 4) rfl, h.cell (j := 5) rfl, h.cell (j := 6) rfl, h.cell (j := 7) rfl⟩
set_option maxRecDepth 20000 in
set_option maxHeartbeats 4000000 in
theorem rising_no {No : Nat → Prop} {w : World} {B : Nat} {wv : Value} {T A b a S hb c : Nat} {d : SD} (h : So No w B wv T A b a S hb c d) (hc : c ≤ 900000) (h1 : -4611686018427387904 ≤ d.1.j) (h2 : d.1.j ≤ 4611686018427387904) :
    Calls Tryz.prog 46 #[.pointer (some ⟨B, 0, none⟩), .bool false] w fun e w' => e = .returned (tolV (fallR d).2) ∧ So No w' B wv T A b a S hb (c + 1) (fallR d).1 ∧ Keep No w w' := by
  obtain ⟨N2, s0, HF0⟩ := h.tell
  have HF : Hid _ := HF0
  have CF := fall_any s0 hc h1 h2
  obtain ⟨tl, htl⟩ : ∃ tl, (fallR d).2 = tl := ⟨_, rfl⟩
  rw [htl] at CF ⊢
  obtain ⟨W0, hW0⟩ : ∃ W0, w.alloc z8 = W0 := ⟨_, rfl⟩
  rw [hW0] at CF HF
  unfold z8 at hW0
  unfold tolV at CF
  clear HF0 s0 h htl
  go_enter Tryz.func46, Tryz.ntmps46
  go_wp2_with fail
  refine CF.mono ?_
  rintro e w4 ⟨rfl, s4, k4⟩
  obtain ⟨r4, r5, s5, k5⟩ := HF.out w4 wv A b a (c + 1) (fallR d).1 tl k4 s4
  have HZ : Hid (_ ∧ _ ∧ _) := ⟨r5, s5, k5⟩
  obtain ⟨W5, hW5⟩ : ∃ W5, set8 w4 w.heap.size tl = W5 := ⟨_, rfl⟩
  rw [hW5] at HZ
  unfold set8 at hW5
  obtain ⟨n0, n1, n2, n3, n4, n5, n6, n7⟩ := r4.eight
  simp only [nil] at n0 n1 n2 n3 n4 n5 n6 n7
  have nf := fun j => r4.free j
  clear r4 r5 s5 k5 s4 k4 HF CF
  go_wp2
  obtain ⟨q1, q2, q3⟩ := HZ.out
  obtain ⟨r0, r1, r2, r3, r4, r5, r6, r7⟩ := q1.eight
  exact bodyPost_ret (v := tolV tl) (by simp [results, Tryz.results46, go_sem, r0, r1, r2, r3, r4, r5, r6, r7, tolV]) rfl ⟨rfl, q2, q3⟩
/-- What a step of the sorter comes to. -/
def GP (No : Nat → Prop) (w : World) (B T S hb c : Nat) (r : SD × Tol) (e : Ending) (w' : World) : Prop :=
  e = .returned (tolV r.2) ∧ (∃ wv' A' b' a', So No w' B wv' T A' b' a' S hb c r.1) ∧ Keep No w w'
theorem So.more {No : Nat → Prop} {w : World} {B : Nat} {wv : Value} {T A b a S hb c c' : Nat} {d : SD} (h : So No w B wv T A b a S hb c d) (hc : c ≤ c') : So No w B wv T A b a S hb c' d := ⟨h.blk, h.row, h.tt.more hc, h.nB, h.nW⟩
theorem bdrewN (w : World) (n : Nat) : Below w.heap.size w (w.drewN n) := ⟨rfl, rfl, rfl, Nat.le_refl _, fun _ _ => rfl⟩
set_option maxRecDepth 20000 in
set_option maxHeartbeats 4000000 in
theorem rising_yes {No : Nat → Prop} {w : World} {B : Nat} {wv : Value} {T A b a S hb c : Nat} {d : SD} (h : So No w B wv T A b a S hb c d) (hc : c ≤ 900000) (h1 : -4611686018427387904 ≤ d.1.i) (h2 : d.1.i ≤ 4611686018427387904) (h3 : -4611686018427387904 ≤ d.1.up) (h4 : d.1.up ≤ 4611686018427387904) :
    Calls Tryz.prog 46 #[.pointer (some ⟨B, 0, none⟩), .bool true] w (GP No w B T S hb (c + 1) (risingR d true)) := by
  obtain ⟨N2, s0, HF0⟩ := h.tell
  have HF : Hid _ := HF0
  have a6 : (w.alloc z8).cell? ⟨B, 6, none⟩ = some (.int .i64 d.1.i) := s0.cell (j := 6) rfl
  have a2 : (w.alloc z8).cell? ⟨B, 2, none⟩ = some (.int .i64 d.1.up) := s0.cell (j := 2) rfl
  have wu : IntKind.i64.wrap (d.1.up - 1) = d.1.up - 1 := by rw [IntKind.wrap_i64]; omega
  have CR := fun n => rise_any (s0.below (bdrewN _ n)) hc h1 h2
  have CE := fun n => end_any (s0.below (bdrewN _ n)) 15
  obtain ⟨W0, hW0⟩ : ∃ W0, w.alloc z8 = W0 := ⟨_, rfl⟩
  rw [hW0] at CR CE HF a6 a2
  unfold z8 at hW0
  have eR : risingR d true = if d.1.i = d.1.up - 1 then (endD d 15, endT 15) else riseR d := rfl
  rw [eR]
  clear HF0 s0 h eR
  by_cases hi : d.1.i = d.1.up - 1
  · rw [if_pos hi]
    have hi' : (d.1.i == d.1.up - 1) = true := by simpa using hi
    unfold GP
    obtain ⟨tl, htl⟩ : ∃ tl, endT 15 = tl := ⟨_, rfl⟩
    rw [htl] at CE ⊢
    unfold tolV at CE
    clear hi CR htl
    go_enter Tryz.func46, Tryz.ntmps46
    go_wp2
    go_quiet (fail)
    go_wp2_with fail
    refine (CE _).mono ?_
    rintro e w4 ⟨rfl, s4, k4⟩
    obtain ⟨r4, r5, s5, k5⟩ := HF.out w4 _ A b a c (endD d 15) tl ((Keep.of (bdrewN _ _)).trans k4) s4
    have HZ : Hid (_ ∧ _ ∧ _) := ⟨r5, s5, k5⟩
    obtain ⟨W5, hW5⟩ : ∃ W5, set8 w4 w.heap.size tl = W5 := ⟨_, rfl⟩
    rw [hW5] at HZ
    unfold set8 at hW5
    obtain ⟨n0, n1, n2, n3, n4, n5, n6, n7⟩ := r4.eight
    simp only [nil] at n0 n1 n2 n3 n4 n5 n6 n7
    have nf := fun j => r4.free j
    clear r4 r5 s5 k5 s4 k4 HF CE
    go_wp2
    obtain ⟨q1, q2, q3⟩ := HZ.out
    obtain ⟨r0, r1, r2, r3, r4, r5, r6, r7⟩ := q1.eight
    exact bodyPost_ret (v := tolV tl) (by simp [results, Tryz.results46, go_sem, r0, r1, r2, r3, r4, r5, r6, r7, tolV]) rfl ⟨rfl, ⟨_, _, _, _, q2.more (by omega)⟩, q3⟩
  · rw [if_neg hi]
    have hi' : (d.1.i == d.1.up - 1) = false := by simpa using hi
    unfold GP
    obtain ⟨tl, htl⟩ : ∃ tl, (riseR d).2 = tl := ⟨_, rfl⟩
    rw [htl] at CR ⊢
    unfold tolV at CR
    clear hi CE htl
    go_enter Tryz.func46, Tryz.ntmps46
    go_wp2
    go_quiet (fail)
    go_wp2_with fail
    refine (CR _).mono ?_
    rintro e w4 ⟨rfl, s4, k4⟩
    obtain ⟨r4, r5, s5, k5⟩ := HF.out w4 _ A b a (c + 1) (riseR d).1 tl ((Keep.of (bdrewN _ _)).trans k4) s4
    have HZ : Hid (_ ∧ _ ∧ _) := ⟨r5, s5, k5⟩
    obtain ⟨W5, hW5⟩ : ∃ W5, set8 w4 w.heap.size tl = W5 := ⟨_, rfl⟩
    rw [hW5] at HZ
    unfold set8 at hW5
    obtain ⟨n0, n1, n2, n3, n4, n5, n6, n7⟩ := r4.eight
    simp only [nil] at n0 n1 n2 n3 n4 n5 n6 n7
    have nf := fun j => r4.free j
    clear r4 r5 s5 k5 s4 k4 HF CR
    go_wp2
    obtain ⟨q1, q2, q3⟩ := HZ.out
    obtain ⟨r0, r1, r2, r3, r4, r5, r6, r7⟩ := q1.eight
    exact bodyPost_ret (v := tolV tl) (by simp [results, Tryz.results46, go_sem, r0, r1, r2, r3, r4, r5, r6, r7, tolV]) rfl ⟨rfl, ⟨_, _, _, _, q2⟩, q3⟩
theorem rising_any {No : Nat → Prop} {w : World} {B : Nat} {wv : Value} {T A b a S hb c : Nat} {d : SD} (h : So No w B wv T A b a S hb c d) (hc : c ≤ 900000) (h1 : -4611686018427387904 ≤ d.1.i) (h2 : d.1.i ≤ 4611686018427387904) (h3 : -4611686018427387904 ≤ d.1.up) (h4 : d.1.up ≤ 4611686018427387904) (h5 : -4611686018427387904 ≤ d.1.j) (h6 : d.1.j ≤ 4611686018427387904) (less : Bool) :
    Calls Tryz.prog 46 #[.pointer (some ⟨B, 0, none⟩), .bool less] w (GP No w B T S hb (c + 1) (risingR d less)) := by
  cases less with
  | true => exact rising_yes h hc h1 h2 h3 h4
  | false => exact (rising_no h hc h5 h6).mono fun e w' hh => ⟨hh.1, ⟨_, _, _, _, hh.2.1⟩, hh.2.2⟩
end Go.Proofs.YtcaaaoehipcloaaGreat

/- The sorter's row of rows: one taken off. -/
namespace Go.Proofs.YtcaaaoehipcloaaGreat
open Go.RowKit

theorem rws_snoc (l : List (Int × Int)) (r : Int × Int) : rws (r :: l).reverse = rws l.reverse ++ [.int .i64 r.1, .int .i64 r.2] := by
  unfold rws
  rw [List.reverse_cons, List.flatMap_append]
  rfl
theorem rws_len (l : List (Int × Int)) : (rws l).length = l.length * 2 := by
  induction l with
  | nil => rfl
  | cons r l ih =>
    unfold rws at ih ⊢
    rw [List.flatMap_cons, List.length_append, ih]
    simp
    omega
/-- The sorter's own cells have changed, its slice of rows too; nothing else that was there. -/
theorem So.to2 {No : Nat → Prop} {w W : World} {B : Nat} {wv wv' : Value} {T A b a S hb c : Nat} {d : SD} (h : So No w B wv T A b a S hb c d) (k : Keep (fun g => g ≠ B ∧ g < w.heap.size) w W) (s' : SS) (hb' : W.heap[B]? = some (.cells (scl T wv' s') 71 (0, 0))) (hr : W.ownsRow (B + 1) 68 2 wv' s'.wt.length (rws s'.wt.reverse)) (hv : ∀ g, wv'.ownBlock = some g → wv.ownBlock = some g) : So No W B wv' T A b a S hb c (s', d.2) ∧ Keep No w W := by
  refine ⟨⟨hb', hr, ?_, h.nB, fun g q => h.nW g (hv g q)⟩, ⟨k.os, k.tape, k.output, k.size, fun g hg q => k.block g hg ⟨fun e => h.nB (e ▸ q), hg⟩⟩⟩
  exact (h.tt.frame2 k.os k.tape k.output k.size (fun g hg hn => k.block g hg ⟨fun e => hn (.inr (.inl e)), hg⟩)).sub (fun g q => by
    rcases q with q | q | q
    · exact .inl (.inl q)
    · exact .inl (.inr (.inl q))
    · exact .inl (.inr (.inr (hv g q))))
/-- The last row that waits: where it stands, and the sorter without it. -/
theorem So.last {No : Nat → Prop} {w : World} {B : Nat} {wv : Value} {T A b a S hb c : Nat} {d : SD} (h : So No w B wv T A b a S hb c d) {r : Int × Int} {l : List (Int × Int)} (hw : d.1.wt = r :: l) :
    ∃ g cap, wv = .slice (some ⟨g, 0, none⟩) (l.length + 1) cap ∧ B < g ∧ l.length + 1 ≤ cap ∧ (cap : Int) ≤ 9223372036854775807 ∧ w.cell? ⟨g, l.length * 2, none⟩ = some (.int .i64 r.1) ∧ w.cell? ⟨g, l.length * 2 + 1, none⟩ = some (.int .i64 r.2) ∧
      ∀ W s', Keep (fun g => g ≠ B ∧ g < w.heap.size) w W → W.heap[B]? = some (.cells (scl T (.slice (some ⟨g, 0, none⟩) l.length cap) s') 71 (0, 0)) → s'.wt = l → So No W B (.slice (some ⟨g, 0, none⟩) l.length cap) T A b a S hb c (s', d.2) ∧ Keep No w W := by
  have hrow := h.row
  rw [hw, rws_snoc] at hrow
  simp only [List.length_cons] at hrow
  rcases hrow.2 with ⟨_, h0⟩ | ⟨g, cap, cur, e, hg, hb, hn, hm, hs, ht⟩
  · omega
  · subst e
    have hl := rws_len l.reverse
    rw [List.length_reverse] at hl
    have c0 := World.ownsRow.cellAt hrow (l.length * 2) (by omega)
    have c1 := World.ownsRow.cellAt hrow (l.length * 2 + 1) (by omega)
    rw [List.getElem?_append_right (by omega), show l.length * 2 - (rws l.reverse).length = 0 by omega] at c0
    rw [List.getElem?_append_right (by omega), show l.length * 2 + 1 - (rws l.reverse).length = 1 by omega] at c1
    refine ⟨g, cap, rfl, by omega, hn, ?_, c0, c1, fun W s' k bW ew => ?_⟩
    · unfold maxLen at hm; omega
    · refine h.to2 k s' bW ?_ (fun g' q => q)
      have hp := ownsRow_pop (by rw [hl]) hrow
      rw [ew]
      refine ⟨hp.1, ?_⟩
      rcases hp.2 with ⟨q, _⟩ | ⟨g', cap', cur', e', q1, q2, q3⟩
      · cases q
      · cases e'
        refine .inr ⟨g, cap, cur', rfl, q1, ?_, q3⟩
        have hlt := (Array.getElem?_eq_some_iff.1 q2).1
        rw [k.block g hlt ⟨by omega, hlt⟩]
        exact q2
end Go.Proofs.YtcaaaoehipcloaaGreat

/- The sorter within a function's body: its state, and all calls and stores on it. -/
namespace Go.Proofs.YtcaaaoehipcloaaGreat
open Go.RowKit

/-- The sorter at a place of a body that began in W0; others' blocks are as they were. -/
structure Sk (N2 : Nat → Prop) (W0 w : World) (B : Nat) (wv : Value) (T A b a S hb c : Nat) (d : SD) : Prop where
  so : So N2 w B wv T A b a S hb c d
  kp : Keep N2 W0 w
theorem Sk.below {N2 : Nat → Prop} {W0 w w' : World} {B : Nat} {wv : Value} {T A b a S hb c : Nat} {d : SD} (h : Sk N2 W0 w B wv T A b a S hb c d) (k : Below w.heap.size w w') : Sk N2 W0 w' B wv T A b a S hb c d := ⟨h.so.below k, h.kp.trans (Keep.of k)⟩
theorem Sk.drewN {N2 : Nat → Prop} {W0 w : World} {B : Nat} {wv : Value} {T A b a S hb c : Nat} {d : SD} (h : Sk N2 W0 w B wv T A b a S hb c d) (n : Nat) : Sk N2 W0 (w.drewN n) B wv T A b a S hb c d := h.below (bdrewN w n)
theorem Sk.more {N2 : Nat → Prop} {W0 w : World} {B : Nat} {wv : Value} {T A b a S hb c c' : Nat} {d : SD} (h : Sk N2 W0 w B wv T A b a S hb c d) (hc : c ≤ c') : Sk N2 W0 w B wv T A b a S hb c' d := ⟨h.so.more hc, h.kp⟩
/-- A value as it is returned. -/
abbrev va (v : V) : Value := .agg #[.int .i64 v.1, .int .i64 v.2.1, .string v.2.2]
theorem Sk.rd {N2 : Nat → Prop} {W0 w : World} {B : Nat} {wv : Value} {T A b a S hb c : Nat} {d : SD} (h : Sk N2 W0 w B wv T A b a S hb c d) (hc : c ≤ 900000) (n : Int) (h1 : -9223372036854775808 ≤ n) (h2 : n ≤ 9223372036854775807) (m : Nat) :
    Calls Tryz.prog 70 #[.pointer (some ⟨B, 0, none⟩), .int .i64 n] (w.drewN m) fun e w' => e = .returned (.agg #[.int .i64 (rdV d n).1, .int .i64 (rdV d n).2.1, .string (rdV d n).2.2]) ∧ Sk N2 W0 w' B wv T A b a S hb (c + 1) (rdD d n) :=
  (read_any (h.drewN m).so hc n h1 h2).mono fun _ _ hh => ⟨hh.1, hh.2.1, (h.drewN m).kp.trans (hh.2.2.sub (fun _ q => .inl q))⟩
theorem Sk.pu {N2 : Nat → Prop} {W0 w : World} {B : Nat} {wv : Value} {T A b a S hb c : Nat} {d : SD} (h : Sk N2 W0 w B wv T A b a S hb c d) (hc : c ≤ 600000) (i1 i2 : Int) (v u : V) (h1 : -9223372036854775808 ≤ i1) (h2 : i1 ≤ 9223372036854775807) (h3 : -9223372036854775808 ≤ i2) (h4 : i2 ≤ 9223372036854775807) (m : Nat) :
    Calls Tryz.prog 67 #[.pointer (some ⟨B, 0, none⟩), .int .i64 i1, .agg #[.int .i64 v.1, .int .i64 v.2.1, .string v.2.2], .int .i64 i2, .agg #[.int .i64 u.1, .int .i64 u.2.1, .string u.2.2]] (w.drewN m) fun e w' => e = .returned (.int .i64 (putE d i1 v i2 u)) ∧ ∃ A' b' a', Sk N2 W0 w' B wv T A' b' a' S hb (c + 14) (putD d i1 v i2 u) :=
  (put_any (h.drewN m).so hc i1 i2 v u h1 h2 h3 h4).mono fun _ _ hh => ⟨hh.1, by
    obtain ⟨A', b', a', q⟩ := hh.2.1
    exact ⟨A', b', a', q, (h.drewN m).kp.trans (hh.2.2.sub (fun _ q => .inl q))⟩⟩
/-- A value is stored into three cells of the sorter. -/
theorem Sk.st3 {N2 : Nat → Prop} {W0 w : World} {B : Nat} {wv : Value} {T A b a S hb c : Nat} {d : SD} (h : Sk N2 W0 w B wv T A b a S hb c d) (j : Nat) (x : V) (s' : SS) (hs : scl T wv s' = (((scl T wv d.1).setIfInBounds j (.int .i64 x.1)).setIfInBounds (j + 1) (.int .i64 x.2.1)).setIfInBounds (j + 2) (.string x.2.2)) (hw : s'.wt = d.1.wt) : Sk N2 W0 (stX w B j x) B wv T A b a S hb c (s', d.2) := by
  have k := stX_keep w B j x
  obtain ⟨q1, q2⟩ := h.so.to (k.sub (fun g q => q.1)) s' ((stX_blk h.so.blk j x).trans (by rw [hs])) hw
  exact ⟨q1, h.kp.trans q2⟩
/-- A number is stored into one cell of the sorter. -/
theorem Sk.st1 {N2 : Nat → Prop} {W0 w : World} {B : Nat} {wv : Value} {T A b a S hb c : Nat} {d : SD} (h : Sk N2 W0 w B wv T A b a S hb c d) (j : Nat) (x : Int) (s' : SS) (hs : scl T wv s' = (scl T wv d.1).setIfInBounds j (.int .i64 x)) (hw : s'.wt = d.1.wt) : Sk N2 W0 (w.setCell ⟨B, j, none⟩ (.int .i64 x)) B wv T A b a S hb c (s', d.2) := by
  have k : Keep (fun g => g ≠ B) w (w.setCell ⟨B, j, none⟩ (.int .i64 x)) := (Keep.refl _ w).set (p := ⟨B, j, none⟩) (fun q => q rfl) _
  obtain ⟨q1, q2⟩ := h.so.to (k.sub (fun g q => q.1)) s' ((blk_set (j := j) h.so.blk _).trans (by rw [hs])) hw
  exact ⟨q1, h.kp.trans q2⟩
/-- What a body's end comes to: the answer is stored, and told. -/
theorem So.tell2 {No : Nat → Prop} {w : World} {B : Nat} {wv : Value} {T A b a S hb c : Nat} {d : SD} (h : So No w B wv T A b a S hb c d) :
    ∃ N2 : Nat → Prop, Sk N2 (w.alloc z8) (w.alloc z8) B wv T A b a S hb c d ∧ ∀ w4 wv' A' b' a' c' d' (tl : Tol), Sk N2 (w.alloc z8) w4 B wv' T A' b' a' S hb c' d' →
      R8 w4 w.heap.size (nil, nil, false, 0) ∧ R8 (set8 w4 w.heap.size tl) w.heap.size tl ∧ So No (set8 w4 w.heap.size tl) B wv' T A' b' a' S hb c' d' ∧ Keep No w (set8 w4 w.heap.size tl) := by
  obtain ⟨N2, s0, hf⟩ := h.tell
  exact ⟨N2, ⟨s0, Keep.refl _ _⟩, fun w4 wv' A' b' a' c' d' tl k => hf w4 wv' A' b' a' c' d' tl k.kp k.so⟩
theorem Sk.ask {N2 : Nat → Prop} {W0 w : World} {B : Nat} {wv : Value} {T A b a S hb c : Nat} {d : SD} (h : Sk N2 W0 w B wv T A b a S hb c d) (k : Int) (v u : V) (m : Nat) :
    Calls Tryz.prog 71 #[.pointer (some ⟨B, 0, none⟩), .int .i64 k, .agg #[.int .i64 v.1, .int .i64 v.2.1, .string v.2.2], .agg #[.int .i64 u.1, .int .i64 u.2.1, .string u.2.2]] (w.drewN m) fun e w' => e = .returned (tolV (askT v u)) ∧ Sk N2 W0 w' B wv T A b a S hb c (askD d k) :=
  (ask_any (h.drewN m).so k v u).mono fun _ _ hh => ⟨hh.1, hh.2.1, (h.drewN m).kp.trans hh.2.2⟩
theorem Sk.en {N2 : Nat → Prop} {W0 w : World} {B : Nat} {wv : Value} {T A b a S hb c : Nat} {d : SD} (h : Sk N2 W0 w B wv T A b a S hb c d) (er : Int) (m : Nat) :
    Calls Tryz.prog 68 #[.pointer (some ⟨B, 0, none⟩), .int .i64 er] (w.drewN m) fun e w' => e = .returned (tolV (endT er)) ∧ Sk N2 W0 w' B (.slice none 0 0) T A b a S hb c (endD d er) :=
  (end_any (h.drewN m).so er).mono fun _ _ hh => ⟨hh.1, hh.2.1, (h.drewN m).kp.trans hh.2.2⟩
/-- What a function of the sorter comes to, within a body. -/
def Gk (N2 : Nat → Prop) (W0 : World) (B T S hb c : Nat) (r : SD × Tol) (e : Ending) (w' : World) : Prop := e = .returned (tolV r.2) ∧ ∃ wv' A' b' a', Sk N2 W0 w' B wv' T A' b' a' S hb c r.1
theorem Sk.of {N2 : Nat → Prop} {W0 w : World} {B : Nat} {wv : Value} {T A b a S hb c c' : Nat} {d : SD} {f : FuncId} {xs : Array Value} {r : SD × Tol} (h : Sk N2 W0 w B wv T A b a S hb c d) (m : Nat) (C : ∀ {No : Nat → Prop} {w : World}, So No w B wv T A b a S hb c d → Calls Tryz.prog f xs w (GP No w B T S hb c' r)) :
    Calls Tryz.prog f xs (w.drewN m) (Gk N2 W0 B T S hb c' r) :=
  (C (h.drewN m).so).mono fun _ _ hh => ⟨hh.1, by
    obtain ⟨wv', A', b', a', q⟩ := hh.2.1
    exact ⟨wv', A', b', a', q, (h.drewN m).kp.trans hh.2.2⟩⟩
end Go.Proofs.YtcaaaoehipcloaaGreat
