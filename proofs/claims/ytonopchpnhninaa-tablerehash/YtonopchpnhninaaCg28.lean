/- The walk of TableRehash. -/
import Derived.Test.YtonopchpnhninaaCg27
import Derived.Deep.RegionHeld3
namespace Go.Proofs.Ytonopchpnhninaa
open Go.RowKit
theorem Ms.more {P : Nat → Prop} {W w : World} {X : Nat} {xs : Value} {T S hb c c' : Nat} {t : TS} {s : H.St} {L : Int} (h : Ms P W w X xs T S hb c t s L) (hc : c ≤ c') : Ms P W w X xs T S hb c' t s L := by
  obtain ⟨A, b, a, ht⟩ := h.tt
  exact ⟨⟨A, b, a, ht.more hc⟩, h.lo, h.bel, h.xc, h.sz, h.tb⟩
/-- An operation in a block of its own: its key's and its value's cells. -/
structure O6 (w : World) (N : Nat) (k v : V) : Prop where
  c1 : w.cell? ⟨N, 1, none⟩ = some (.int .i64 k.1)
  c2 : w.cell? ⟨N, 2, none⟩ = some (.int .i64 k.2.1)
  c3 : w.cell? ⟨N, 3, none⟩ = some (.string k.2.2)
  c4 : w.cell? ⟨N, 4, none⟩ = some (.int .i64 v.1)
  c5 : w.cell? ⟨N, 5, none⟩ = some (.int .i64 v.2.1)
  c6 : w.cell? ⟨N, 6, none⟩ = some (.string v.2.2)
  lt : N < w.heap.size
theorem O6.kept {No : Nat → Prop} {w w' : World} {N : Nat} {k v : V} (h : O6 w N k v) (q : Keep No w w') (hn : No N) : O6 w' N k v := by
  have e := q.block N h.lt hn
  exact ⟨by rw [World.cell?_of_block (w := w) e]; exact h.c1, by rw [World.cell?_of_block (w := w) e]; exact h.c2, by rw [World.cell?_of_block (w := w) e]; exact h.c3, by rw [World.cell?_of_block (w := w) e]; exact h.c4, by rw [World.cell?_of_block (w := w) e]; exact h.c5, by rw [World.cell?_of_block (w := w) e]; exact h.c6, Nat.lt_of_lt_of_le h.lt q.size⟩
theorem O6.below {w w' : World} {N : Nat} {k v : V} (h : O6 w N k v) (q : Below w.heap.size w w') : O6 w' N k v := h.kept (No := fun _ => True) (Keep.of q) trivial
theorem O6.made (w : World) (k v : V) (x y : Int) : O6 (w.alloc (.cells #[.int .i64 x, .int .i64 k.1, .int .i64 k.2.1, .string k.2.2, .int .i64 v.1, .int .i64 v.2.1, .string v.2.2, .int .i64 y] 36)) w.heap.size k v := by
  have h := (MapKept.heap_alloc w (.cells #[.int .i64 x, .int .i64 k.1, .int .i64 k.2.1, .string k.2.2, .int .i64 v.1, .int .i64 v.2.1, .string v.2.2, .int .i64 y] 36)).1
  exact ⟨cell_of_row h 1, cell_of_row h 2, cell_of_row h 3, cell_of_row h 4, cell_of_row h 5, cell_of_row h 6, by simp⟩
set_option maxRecDepth 100000 in
set_option maxHeartbeats 8000000 in
theorem th_lim (l x y : Int) (a : Option Addr) (L cap : Nat) (hL : L ≤ cap) (W : World) (hl : l < 0 ∨ 400000 < l) :
    Calls Try.prog 4 #[cv l x y (.slice a L cap)] W fun e w' => e = .returned (.bool true) ∧ Below W.heap.size W w' := by
  have CB := fun w => begin_lim l (cN x) (cN y) a (min L 300) cap w hl
  unfold cv at CB
  have CF := fun w => fixed_any w
  have CC := fun w => cut_any l x y a L cap hL w
  unfold cv at CC ⊢
  have R0 := R4.made W (.int .i64 l) (.int .i64 x) (.int .i64 y) (.slice a L cap) 24
  have B0 := b1 W (.cells #[.int .i64 l, .int .i64 x, .int .i64 y, .slice a L cap] 24)
  obtain ⟨W0, hW0⟩ : ∃ W0, W.alloc (.cells #[.int .i64 l, .int .i64 x, .int .i64 y, .slice a L cap] 24) = W0 := ⟨_, rfl⟩
  rw [hW0] at R0 B0
  have HR0 : Hid (R4 W0 W.heap.size (.int .i64 l) (.int .i64 x) (.int .i64 y) (.slice a L cap)) := R0
  have HB0 : Hid (Below W.heap.size W W0) := B0
  clear R0 B0
  generalize hX : W.heap.size = X at *
  have HX : Hid (W.heap.size = X) := hX
  go_enter Try.func4, Try.ntmps4
  go_wp2_with fail
  refine (CF _).mono ?_; rintro e w1 ⟨rfl, hb1⟩
  have R1 := HR0.out.below hb1
  have HB1 : Hid (Below X W w1) := bthen HB0.out (Nat.le_of_lt HR0.out.lt) hb1
  have HR1 : Hid (R4 w1 X (.int .i64 l) (.int .i64 x) (.int .i64 y) (.slice a L cap)) := R1
  have c0 := R1.c0
  have c1 := R1.c1
  have c2 := R1.c2
  have c3 := R1.c3
  clear hb1 R1 HR0 HB0 CF hW0
  go_wp2_with fail
  refine (CC _).mono ?_; rintro e w2 ⟨rfl, hb2⟩
  have R2 := HR1.out.below hb2
  have R3 := R2.set (.int .i64 l) (.int .i64 (cN x)) (.int .i64 (cN y)) (.slice a (min L 300) cap)
  have K3 := ((Keep.refl (fun g => g < X) w2).set4 (N := X) (Nat.lt_irrefl X) (.int .i64 l) (.int .i64 (cN x)) (.int .i64 (cN y)) (.slice a (min L 300) cap)).below (N := X) (Nat.le_of_lt R2.lt) (fun g q => q)
  obtain ⟨W3, hW3⟩ : ∃ W3, set4 w2 X (.int .i64 l) (.int .i64 (cN x)) (.int .i64 (cN y)) (.slice a (min L 300) cap) = W3 := ⟨_, rfl⟩
  rw [hW3] at R3 K3
  unfold set4 at hW3
  have HB3 : Hid (Below X W W3) := (bthen HB1.out (Nat.le_of_lt HR1.out.lt) hb2).trans K3
  have HR3 : Hid (R4 W3 X (.int .i64 l) (.int .i64 (cN x)) (.int .i64 (cN y)) (.slice a (min L 300) cap)) := R3
  have rc0 := R2.c0
  have rc1 := R2.c1
  have rc2 := R2.c2
  have rc3 := R2.c3
  have rcf := R2.fz
  have t0 := R3.c0
  have t1 := R3.c1
  have t2 := R3.c2
  have t3 := R3.c3
  clear hb2 R2 R3 K3 HB1 HR1 CC c0 c1 c2 c3
  go_wp2_with fail
  refine (CB _).mono ?_; rintro e w4 ⟨rfl, hb4⟩
  have HB4 : Hid (Below X W w4) := bthen HB3.out (Nat.le_of_lt HR3.out.lt) hb4
  clear hb4
  go_wp2_with fail
  go_ret
  exact ⟨rfl, HB4.out⟩
set_option maxRecDepth 100000 in
set_option maxHeartbeats 8000000 in
theorem th_fail (l x y : Int) (a : Option Addr) (L cap : Nat) (hL : L ≤ cap) (W : World) (h0 : 0 ≤ l) (h1 : l ≤ 400000) (he : nE (H.newSt l) (cN x) (cN y) ≠ 0) :
    Calls Try.prog 4 #[cv l x y (.slice a L cap)] W fun e w' => e = .returned (.bool true) ∧ Below W.heap.size W w' := by
  have CB := fun w => begin_fail l (cN x) (cN y) a (min L 300) cap w h0 h1 he
  unfold cv at CB
  clear h0 h1 he
  have CF := fun w => fixed_any w
  have CC := fun w => cut_any l x y a L cap hL w
  unfold cv at CC ⊢
  have R0 := R4.made W (.int .i64 l) (.int .i64 x) (.int .i64 y) (.slice a L cap) 24
  have B0 := b1 W (.cells #[.int .i64 l, .int .i64 x, .int .i64 y, .slice a L cap] 24)
  obtain ⟨W0, hW0⟩ : ∃ W0, W.alloc (.cells #[.int .i64 l, .int .i64 x, .int .i64 y, .slice a L cap] 24) = W0 := ⟨_, rfl⟩
  rw [hW0] at R0 B0
  have HR0 : Hid (R4 W0 W.heap.size (.int .i64 l) (.int .i64 x) (.int .i64 y) (.slice a L cap)) := R0
  have HB0 : Hid (Below W.heap.size W W0) := B0
  clear R0 B0
  generalize hX : W.heap.size = X at *
  have HX : Hid (W.heap.size = X) := hX
  go_enter Try.func4, Try.ntmps4
  go_wp2_with fail
  refine (CF _).mono ?_; rintro e w1 ⟨rfl, hb1⟩
  have R1 := HR0.out.below hb1
  have HB1 : Hid (Below X W w1) := bthen HB0.out (Nat.le_of_lt HR0.out.lt) hb1
  have HR1 : Hid (R4 w1 X (.int .i64 l) (.int .i64 x) (.int .i64 y) (.slice a L cap)) := R1
  have c0 := R1.c0
  have c1 := R1.c1
  have c2 := R1.c2
  have c3 := R1.c3
  clear hb1 R1 HR0 HB0 CF hW0
  go_wp2_with fail
  refine (CC _).mono ?_; rintro e w2 ⟨rfl, hb2⟩
  have R2 := HR1.out.below hb2
  have R3 := R2.set (.int .i64 l) (.int .i64 (cN x)) (.int .i64 (cN y)) (.slice a (min L 300) cap)
  have K3 := ((Keep.refl (fun g => g < X) w2).set4 (N := X) (Nat.lt_irrefl X) (.int .i64 l) (.int .i64 (cN x)) (.int .i64 (cN y)) (.slice a (min L 300) cap)).below (N := X) (Nat.le_of_lt R2.lt) (fun g q => q)
  obtain ⟨W3, hW3⟩ : ∃ W3, set4 w2 X (.int .i64 l) (.int .i64 (cN x)) (.int .i64 (cN y)) (.slice a (min L 300) cap) = W3 := ⟨_, rfl⟩
  rw [hW3] at R3 K3
  unfold set4 at hW3
  have HB3 : Hid (Below X W W3) := (bthen HB1.out (Nat.le_of_lt HR1.out.lt) hb2).trans K3
  have HR3 : Hid (R4 W3 X (.int .i64 l) (.int .i64 (cN x)) (.int .i64 (cN y)) (.slice a (min L 300) cap)) := R3
  have rc0 := R2.c0
  have rc1 := R2.c1
  have rc2 := R2.c2
  have rc3 := R2.c3
  have rcf := R2.fz
  have t0 := R3.c0
  have t1 := R3.c1
  have t2 := R3.c2
  have t3 := R3.c3
  clear hb2 R2 R3 K3 HB1 HR1 CC c0 c1 c2 c3
  go_wp2_with fail
  refine (CB _).mono ?_; rintro e w4 ⟨S, rfl, hb4⟩
  have HB4 : Hid (Below X W w4) := bthen HB3.out (Nat.le_of_lt HR3.out.lt) hb4
  clear hb4
  go_wp2_with fail
  go_ret
  exact ⟨rfl, HB4.out⟩
set_option maxRecDepth 100000 in
set_option maxHeartbeats 8000000 in
theorem th_ok (l x y : Int) (a : Option Addr) (L cap : Nat) (hL : L ≤ cap) (W : World) (Q : Nat → Int × V × V × Int) (hO : Ops W.heap.size W a L Q) (h0 : 0 ≤ l) (h1 : l ≤ 400000) (he : nE (H.newSt l) (cN x) (cN y) = 0) :
    Calls Try.prog 4 #[cv l x y (.slice a L cap)] W fun e w' => e = .returned (.bool true) ∧ Below W.heap.size W w' := by
  have CB := fun w => begin_ok l (cN x) (cN y) a (min L 300) cap w h0 h1 he
  unfold cv tp at CB
  have HO : Hid (Ops W.heap.size W a (min L 300) Q) := hO.cut (Nat.min_le_left _ _)
  have HIv : Hid (H.Inv 0 (H.newSt l)) := H.Inv.new l h0 h1
  clear h0 h1 he hO
  have CF := fun w => fixed_any w
  have CC := fun w => cut_any l x y a L cap hL w
  unfold cv at CC ⊢
  have R0 := R4.made W (.int .i64 l) (.int .i64 x) (.int .i64 y) (.slice a L cap) 24
  have B0 := b1 W (.cells #[.int .i64 l, .int .i64 x, .int .i64 y, .slice a L cap] 24)
  obtain ⟨W0, hW0⟩ : ∃ W0, W.alloc (.cells #[.int .i64 l, .int .i64 x, .int .i64 y, .slice a L cap] 24) = W0 := ⟨_, rfl⟩
  rw [hW0] at R0 B0
  have HR0 : Hid (R4 W0 W.heap.size (.int .i64 l) (.int .i64 x) (.int .i64 y) (.slice a L cap)) := R0
  have HB0 : Hid (Below W.heap.size W W0) := B0
  clear R0 B0
  generalize hX : W.heap.size = X at *
  have HX : Hid (W.heap.size = X) := hX
  go_enter Try.func4, Try.ntmps4
  go_wp2_with fail
  refine (CF _).mono ?_; rintro e w1 ⟨rfl, hb1⟩
  have R1 := HR0.out.below hb1
  have HB1 : Hid (Below X W w1) := bthen HB0.out (Nat.le_of_lt HR0.out.lt) hb1
  have HR1 : Hid (R4 w1 X (.int .i64 l) (.int .i64 x) (.int .i64 y) (.slice a L cap)) := R1
  have c0 := R1.c0
  have c1 := R1.c1
  have c2 := R1.c2
  have c3 := R1.c3
  clear hb1 R1 HR0 HB0 CF hW0
  go_wp2_with fail
  refine (CC _).mono ?_; rintro e w2 ⟨rfl, hb2⟩
  have R2 := HR1.out.below hb2
  have R3 := R2.set (.int .i64 l) (.int .i64 (cN x)) (.int .i64 (cN y)) (.slice a (min L 300) cap)
  have K3 := ((Keep.refl (fun g => g < X) w2).set4 (N := X) (Nat.lt_irrefl X) (.int .i64 l) (.int .i64 (cN x)) (.int .i64 (cN y)) (.slice a (min L 300) cap)).below (N := X) (Nat.le_of_lt R2.lt) (fun g q => q)
  obtain ⟨W3, hW3⟩ : ∃ W3, set4 w2 X (.int .i64 l) (.int .i64 (cN x)) (.int .i64 (cN y)) (.slice a (min L 300) cap) = W3 := ⟨_, rfl⟩
  rw [hW3] at R3 K3
  unfold set4 at hW3
  have HB3 : Hid (Below X W W3) := (bthen HB1.out (Nat.le_of_lt HR1.out.lt) hb2).trans K3
  have HR3 : Hid (R4 W3 X (.int .i64 l) (.int .i64 (cN x)) (.int .i64 (cN y)) (.slice a (min L 300) cap)) := R3
  have rc0 := R2.c0
  have rc1 := R2.c1
  have rc2 := R2.c2
  have rc3 := R2.c3
  have rcf := R2.fz
  have t0 := R3.c0
  have t1 := R3.c1
  have t2 := R3.c2
  have t3 := R3.c3
  clear hb2 R2 R3 K3 HB1 HR1 CC c0 c1 c2 c3
  go_wp2_with fail
  refine (CB _).mono ?_; rintro e w4 ⟨M, T, A, b, a', S, hb, RT, RA, P, ka, va, ca, G, n', z, t, rfl, bg, ok, es1, es2⟩
  have hlt3 := HR3.out.lt
  have HM0 : Hid (∃ t s LL, Ms (fun g => g < W3.heap.size) W w4 X (.slice a (min L 300) cap) T S hb 3 t s LL) :=
    ⟨_, _, _, ⟨⟨A, b, a', bg.tt.sub (fun g q => .inl q)⟩, fun g q => Nat.lt_of_le_of_lt q hlt3, bthen HB3.out (Nat.le_of_lt hlt3) bg.bel, (HR3.out.below bg.bel).c3, Nat.lt_of_lt_of_le hlt3 bg.bel.size, ok.tb HIv.out bg.et es1 es2⟩⟩
  obtain ⟨L', hL'⟩ : ∃ L', min L 300 = L' := ⟨_, rfl⟩
  have hL3 : L' ≤ 300 := by omega
  have hLc : L' ≤ cap := by omega
  rw [hL'] at HM0 HO
  clear bg ok hlt3 CB HR3 HB3 rc0 rc1 rc2 rc3 rcf t0 t1 t2 t3 hW3 es1 es2
  go_wp2_with fail
  go_loopw [7] (fun iw wr => ∃ k : Nat, iw = .int .i64 (k : Nat) ∧ k ≤ L' ∧ Hid (∃ P t s LL, Ms P W wr X (.slice a L' cap) T S hb (3 + 9 * k) t s LL)) (fun iw _ => L' - (intOf iw).toNat)
  case atStart =>
    obtain ⟨t, s, LL, hm⟩ := HM0.out
    exact ⟨0, rfl, by omega, ⟨_, t, s, LL, hm⟩⟩
  case round =>
    obtain ⟨k, rfl, hk, HG⟩ := hrel
    obtain ⟨P, t, s, Lv0, hM⟩ := HG.out
    clear HG HM0
    have xc := hM.xc
    have HM : Hid (Ms P W wr X (.slice a L' cap) T S hb (3 + 9 * k) t s Lv0) := hM
    by_cases hlt : k < L'
    · have hlt' : (k : Int) < (L' : Int) := by omega
      obtain ⟨lb, off, ha, hlb, o0, o1, o2, o3, o4, o5, o6, o7⟩ := (HO.out.below hM.bel).at hlt
      subst ha
      have hRk : Rng (Q k).2.1 := (HO.out.1 k hlt).1
      have hba := b1 wr (.cells #[.int .i64 (Q k).1, .int .i64 (Q k).2.1.1, .int .i64 (Q k).2.1.2.1, .string (Q k).2.1.2.2, .int .i64 (Q k).2.2.1.1, .int .i64 (Q k).2.2.1.2.1, .string (Q k).2.2.1.2.2, .int .i64 (Q k).2.2.2] 36)
      have hoa := O6.made wr (Q k).2.1 (Q k).2.2.1 (Q k).1 (Q k).2.2.2
      obtain ⟨wa, hwa⟩ : ∃ wa, wr.alloc (.cells #[.int .i64 (Q k).1, .int .i64 (Q k).2.1.1, .int .i64 (Q k).2.1.2.1, .string (Q k).2.1.2.2, .int .i64 (Q k).2.2.1.1, .int .i64 (Q k).2.2.1.2.1, .string (Q k).2.2.1.2.2, .int .i64 (Q k).2.2.2] 36) = wa := ⟨_, rfl⟩
      rw [hwa] at hba hoa
      have HBa : Hid (Below wr.heap.size wr wa) := hba
      have HOa : Hid (O6 wa wr.heap.size (Q k).2.1 (Q k).2.2.1) := hoa
      have CT := (hM.below hba).stats
      have HRk : Hid (Rng (Q k).2.1) := hRk
      generalize (Q k).2.1 = kk at *
      generalize (Q k).2.2.1 = vv0 at *
      generalize hob : wr.heap.size = ob at *
      unfold ts sv tp at CT
      clear hM hba hoa hRk
      go_wp2_with fail
      refine CT.mono ?_; rintro e w1 ⟨rfl, hb1⟩
      have HB1 : Hid (Below ob wr w1) := bthen HBa.out (hob ▸ HBa.out.size) hb1
      have HO1 : Hid (O6 w1 ob kk vv0) := HOa.out.below hb1
      have CL := (HM.out.below (hob.symm ▸ HB1.out)).live
      have CF := (HM.out.below (hob.symm ▸ HB1.out)).full
      obtain ⟨al, hal⟩ : ∃ al, decide (∀ i, i < t.p.z → t.p.g.K i ≠ nil) = al := ⟨_, rfl⟩
      rw [hal] at CF
      have HAL : Hid (decide (∀ i, i < t.p.z → t.p.g.K i ≠ nil) = al) := hal
      clear hal
      unfold tp at CL CF
      clear hb1 CT HBa HOa o0 o1 o2 o3 o4 o5 o6 o7 hwa xc
      go_wp2_with fail
      refine CL.mono ?_; rintro e w2 ⟨rfl, hw2⟩; rw [hw2]; clear hw2 CL
      go_wp2_with fail
      refine CF.mono ?_; rintro e w2 ⟨rfl, hb2⟩
      have hsz1 : ob ≤ w1.heap.size := by have := HB1.out.size; omega
      have hb3 := b1 w2 (.cells #[.int .i64 (t.p.n : Nat), .int .i64 (t.p.z : Nat), .int .i64 (t.p.g.f : Nat), .int .i64 t.hint] 42)
      have r3 := R4.made w2 (.int .i64 (t.p.n : Nat)) (.int .i64 (t.p.z : Nat)) (.int .i64 (t.p.g.f : Nat)) (.int .i64 t.hint) 42
      obtain ⟨w3, hw3⟩ : ∃ w3, w2.alloc (.cells #[.int .i64 (t.p.n : Nat), .int .i64 (t.p.z : Nat), .int .i64 (t.p.g.f : Nat), .int .i64 t.hint] 42) = w3 := ⟨_, rfl⟩
      rw [hw3] at hb3 r3
      have hb13 := bthen hb2 hb2.size hb3
      have HB3 : Hid (Below ob wr w3) := bthen HB1.out hsz1 hb13
      have HO3 : Hid (O6 w3 ob kk vv0) := HO1.out.below hb13
      have HS3 : Hid (R4 w3 w2.heap.size (.int .i64 (t.p.n : Nat)) (.int .i64 (t.p.z : Nat)) (.int .i64 (t.p.g.f : Nat)) (.int .i64 t.hint)) := r3
      have hM3 := HM.out.news (hob.symm ▸ HB3.out)
      obtain ⟨P1, hP1⟩ : ∃ P1, (fun g => P g ∨ (wr.heap.size ≤ g ∧ g < w3.heap.size)) = P1 := ⟨_, rfl⟩
      have hsz2 : ob ≤ w2.heap.size := by have := hb2.size; omega
      have HPo : Hid (P1 ob ∧ P1 w2.heap.size) := by
        have h1 := HO3.out.lt
        have h2 := r3.lt
        rw [← hP1]
        exact ⟨.inr ⟨by omega, h1⟩, .inr ⟨by omega, h2⟩⟩
      rw [hP1] at hM3
      have CP := hM3.place (by omega) kk HRk.out
      have HM3 : Hid (Ms P1 W w3 X (.slice (some ⟨lb, off, none⟩) L' cap) T S hb (3 + 9 * k) t s Lv0) := hM3
      have y1 := HO3.out.c1
      have y2 := HO3.out.c2
      have y3 := HO3.out.c3
      unfold vv vl tp at CP
      generalize hwb : w2.heap.size = wb at *
      clear hb2 hb3 r3 hb13 hP1 hM3 CF HB1 HO1
      go_wp2_with fail
      refine CP.mono ?_; rintro e w5 ⟨rfl, hM5, k5⟩
      have HO5 : Hid (O6 w5 ob kk vv0) := HO3.out.kept k5 HPo.out.1
      have HS5 : Hid (R4 w5 wb (.int .i64 (t.p.n : Nat)) (.int .i64 (t.p.z : Nat)) (.int .i64 (t.p.g.f : Nat)) (.int .i64 t.hint)) := HS3.out.kept k5 HPo.out.2
      have CS := hM5.set (by omega) kk vv0 HRk.out
      have HT5 : Hid (TI t.p) := HM.out.ti.1
      have HTB5 : Hid (TB { t with pr := t.pr + (prd t.p kk : Nat) } s Lv0) := hM5.tb
      have y1 := HO5.out.c1
      have y2 := HO5.out.c2
      have y3 := HO5.out.c3
      have y4 := HO5.out.c4
      have y5 := HO5.out.c5
      have y6 := HO5.out.c6
      unfold vv vl tp at CS
      obtain ⟨t1, ht1⟩ : ∃ t1 : TS, { t with pr := t.pr + (prd t.p kk : Nat) } = t1 := ⟨_, rfl⟩
      have HT1 : Hid (t1.p = t.p) := by show t1.p = t.p; rw [← ht1]
      rw [ht1] at CS HTB5
      clear CP hM5 k5 HO3 HS3 HM3 ht1 hw3
      go_wp2_with fail
      refine CS.mono ?_; rintro e w6 ⟨rfl, hM6, k6⟩
      obtain ⟨r, hr⟩ : ∃ r, tset t1 s kk vv0 = r := ⟨_, rfl⟩
      rw [hr] at hM6 ⊢
      have HRES : Hid (tset t1 s kk vv0 = r) := hr
      have HM6 : Hid (Ms P1 W w6 X (.slice (some ⟨lb, off, none⟩) L' cap) T S hb (3 + 9 * k + 1 + 7) r.1 r.2.1 Lv0) := hM6
      have HO6 : Hid (O6 w6 ob kk vv0) := HO5.out.kept k6 HPo.out.1
      have HS6 : Hid (R4 w6 wb (.int .i64 (t.p.n : Nat)) (.int .i64 (t.p.z : Nat)) (.int .i64 (t.p.g.f : Nat)) (.int .i64 t.hint)) := HS5.out.kept k6 HPo.out.2
      have CT := hM6.stats
      unfold ts sv tp at CT
      clear CS hM6 k6 HO5 HS5 hr y1 y2 y3 y4 y5 y6
      go_wp2_with fail
      refine CT.mono ?_; rintro e w7 ⟨rfl, hb7⟩
      have hb8 := b1 w7 (.cells #[.int .i64 (r.1.p.n : Nat), .int .i64 (r.1.p.z : Nat), .int .i64 (r.1.p.g.f : Nat), .int .i64 r.1.hint] 42)
      have r8 := R4.made w7 (.int .i64 (r.1.p.n : Nat)) (.int .i64 (r.1.p.z : Nat)) (.int .i64 (r.1.p.g.f : Nat)) (.int .i64 r.1.hint) 42
      obtain ⟨w8, hw8⟩ : ∃ w8, w7.alloc (.cells #[.int .i64 (r.1.p.n : Nat), .int .i64 (r.1.p.z : Nat), .int .i64 (r.1.p.g.f : Nat), .int .i64 r.1.hint] 42) = w8 := ⟨_, rfl⟩
      rw [hw8] at hb8 r8
      have hb68 := bthen hb7 hb7.size hb8
      have HX8 : Hid ((∃ P2 : Nat → Prop, Ms P2 W w8 X (.slice (some ⟨lb, off, none⟩) L' cap) T S hb (3 + 9 * k + 1 + 7) r.1 r.2.1 Lv0 ∧ P2 ob ∧ P2 wb ∧ P2 w7.heap.size) ∧ O6 w8 ob kk vv0 ∧ R4 w8 wb (.int .i64 (t.p.n : Nat)) (.int .i64 (t.p.z : Nat)) (.int .i64 (t.p.g.f : Nat)) (.int .i64 t.hint) ∧ R4 w8 w7.heap.size (.int .i64 (r.1.p.n : Nat)) (.int .i64 (r.1.p.z : Nat)) (.int .i64 (r.1.p.g.f : Nat)) (.int .i64 r.1.hint)) :=
        ⟨⟨_, HM6.out.news hb68, .inl HPo.out.1, .inl HPo.out.2, .inr ⟨hb7.size, r8.lt⟩⟩, HO6.out.below hb68, HS6.out.below hb68, r8⟩
      generalize hnb : w7.heap.size = nb at *
      have y1 := HX8.out.2.1.c1
      have y2 := HX8.out.2.1.c2
      have y3 := HX8.out.2.1.c3
      have y4 := HX8.out.2.1.c4
      have y5 := HX8.out.2.1.c5
      have y6 := HX8.out.2.1.c6
      clear CT hb7 hb8 r8 hb68 HO6 HS6 HM6
      go_upto_region 15 with fail
      have HXb : Hid (∀ wx, Below w8.heap.size w8 wx → ((∃ P2 : Nat → Prop, Ms P2 W wx X (.slice (some ⟨lb, off, none⟩) L' cap) T S hb (3 + 9 * k + 1 + 7) r.1 r.2.1 Lv0 ∧ P2 ob ∧ P2 wb ∧ P2 nb) ∧ O6 wx ob kk vv0 ∧ R4 wx wb (.int .i64 (t.p.n : Nat)) (.int .i64 (t.p.z : Nat)) (.int .i64 (t.p.g.f : Nat)) (.int .i64 t.hint) ∧ R4 wx nb (.int .i64 (r.1.p.n : Nat)) (.int .i64 (r.1.p.z : Nat)) (.int .i64 (r.1.p.g.f : Nat)) (.int .i64 r.1.hint))) := fun wx hx => by
        obtain ⟨⟨P2, q1, q2⟩, q3, q4, q5⟩ := HX8.out
        exact ⟨⟨P2, q1.below hx, q2⟩, q3.below hx, q4.below hx, q5.below hx⟩
      have CK1 := fun W => rcheck_any kk.1 kk.2.1 kk.2.2 W
      have CK2 := fun W => rcheck_any vv0.1 vv0.2.1 vv0.2.2 W
      rw [chk_of] at CK1 CK2
      unfold vl vb at CK1 CK2
      have HB1 : Hid (∀ o, Below w8.heap.size w8 (w8.alloc o)) := fun o => b1 w8 o
      have HB2 : Hid (∀ o o', Below w8.heap.size w8 ((w8.alloc o).alloc o')) := fun o o' => b2 w8 o o'
      go_cut [15] from 34 to 162 (fun dw wx => ∃ d : Bool, dw = .bool d ∧ Hid (d = true ↔ Due t.p kk vv0) ∧ Hid ((∃ P2 : Nat → Prop, Ms P2 W wx X (.slice (some ⟨lb, off, none⟩) L' cap) T S hb (3 + 9 * k + 1 + 7) r.1 r.2.1 Lv0 ∧ P2 ob ∧ P2 wb ∧ P2 nb) ∧ O6 wx ob kk vv0 ∧ R4 wx wb (.int .i64 (t.p.n : Nat)) (.int .i64 (t.p.z : Nat)) (.int .i64 (t.p.g.f : Nat)) (.int .i64 t.hint) ∧ R4 wx nb (.int .i64 (r.1.p.n : Nat)) (.int .i64 (r.1.p.z : Nat)) (.int .i64 (r.1.p.g.f : Nat)) (.int .i64 r.1.hint)))
      case first =>
        by_cases hp : 0 < plc t.p kk
        · have HD : Hid (false = true ↔ Due t.p kk vv0) := ⟨fun q => (by cases q), fun q => absurd hp (by have := q.1; omega)⟩
          go_wp2_with fail
          go_meet
          exact ⟨false, rfl, HD, HX8⟩
        · cases al with
          | true =>
            by_cases hv0 : vv0.1 = 0
            · have HD : Hid (false = true ↔ Due t.p kk vv0) := ⟨fun q => (by cases q), fun q => absurd hv0 q.2.2.1⟩
              have hb0 : (vv0.1 != 0) = false := by simp [hv0]
              clear hv0
              go_wp2_with fail
              go_meet
              exact ⟨false, rfl, HD, HX8⟩
            · have hb0 : (vv0.1 != 0) = true := by simpa using hv0
              have hob8 : ob < w8.heap.size := HX8.out.2.1.lt
              by_cases hfk : fm kk = true
              · rw [if_pos hfk] at CK1
                by_cases hfv : fm vv0 = true
                · rw [if_pos hfv] at CK2
                  have HX9 : Hid _ := HXb.out _ (HB2.out (.cells #[.int .i64 kk.1, .int .i64 kk.2.1, .string kk.2.2] 34) (.cells #[.int .i64 vv0.1, .int .i64 vv0.2.1, .string vv0.2.2] 34))
                  by_cases hk0 : kk.1 = 0
                  · have HD : Hid (false = true ↔ Due t.p kk vv0) := ⟨fun q => (by cases q), fun q => absurd hk0 q.2.2.2.2.2⟩
                    have hb1 : (kk.1 != 0) = false := by simp [hk0]
                    clear hk0 hv0
                    go_wp2_with fail
                    refine (CK1 _).mono ?_; rintro e w9 ⟨rfl, rfl⟩
                    go_wp2_with fail
                    refine (CK2 _).mono ?_; rintro e w9 ⟨rfl, rfl⟩
                    go_wp2_with fail
                    go_meet
                    exact ⟨false, rfl, HD, HX9⟩
                  · have HD : Hid (Due t.p kk vv0) := ⟨by omega, of_decide_eq_true HAL.out, hv0, hfk, hfv, hk0⟩
                    have hb1 : (kk.1 != 0) = true := by simpa using hk0
                    clear hk0 hv0
                    go_wp2_with fail
                    refine (CK1 _).mono ?_; rintro e w9 ⟨rfl, rfl⟩
                    go_wp2_with fail
                    refine (CK2 _).mono ?_; rintro e w9 ⟨rfl, rfl⟩
                    go_wp2_with fail
                    go_meet
                    exact ⟨true, rfl, ⟨fun _ => HD.out, fun _ => rfl⟩, HX9⟩
                · rw [if_neg hfv] at CK2
                  have HX9 : Hid _ := HXb.out _ (HB2.out (.cells #[.int .i64 kk.1, .int .i64 kk.2.1, .string kk.2.2] 34) (.cells #[.int .i64 vv0.1, .int .i64 vv0.2.1, .string vv0.2.2] 34))
                  have HD : Hid (false = true ↔ Due t.p kk vv0) := ⟨fun q => (by cases q), fun q => absurd q.2.2.2.2.1 hfv⟩
                  clear hv0
                  go_wp2_with fail
                  refine (CK1 _).mono ?_; rintro e w9 ⟨rfl, rfl⟩
                  go_wp2_with fail
                  refine (CK2 _).mono ?_; rintro e w9 ⟨rfl, rfl⟩
                  go_wp2_with fail
                  go_meet
                  exact ⟨false, rfl, HD, HX9⟩
              · rw [if_neg hfk] at CK1
                have HX9 : Hid _ := HXb.out _ (HB1.out (.cells #[.int .i64 kk.1, .int .i64 kk.2.1, .string kk.2.2] 34))
                have HD : Hid (false = true ↔ Due t.p kk vv0) := ⟨fun q => (by cases q), fun q => absurd q.2.2.2.1 hfk⟩
                clear hv0
                go_wp2_with fail
                refine (CK1 _).mono ?_; rintro e w9 ⟨rfl, rfl⟩
                go_wp2_with fail
                go_meet
                exact ⟨false, rfl, HD, HX9⟩
          | false =>
            have HD : Hid (false = true ↔ Due t.p kk vv0) := ⟨fun q => (by cases q), fun q => absurd (decide_eq_true q.2.1) (by rw [HAL.out]; decide)⟩
            go_wp2_with fail
            go_meet
            exact ⟨false, rfl, HD, HX8⟩
      case rest =>
        obtain ⟨d, rfl, HD, HX9⟩ := hcut
        clear CK1 CK2 HXb HX8 HB1 HB2 y1 y2 y3 y4 y5 y6 hw8
        obtain ⟨⟨P2, hM9, hPo, hPw, hPn⟩, hO9, hS9, hN9⟩ := HX9.out
        clear HX9
        have hlv : s.live = Lv0 + (t.p.n : Nat) + 3 * (t.p.z : Nat) := by have h := HTB5.out.live; rw [HT1.out] at h; exact h
        have hlv' : r.2.1.live = Lv0 + (r.1.p.n : Nat) + 3 * (r.1.p.z : Nat) := hM9.tb.live
        have HTI1 : TI t1.p := by rw [HT1.out]; exact HT5.out
        have HTI2 : TI r.1.p := hM9.ti.1
        have hDue : Due t1.p kk vv0 ↔ d = true := by rw [HT1.out]; exact HD.out.symm
        have xs0 := hS9.c0
        have xs1 := hS9.c1
        have xn0 := hN9.c0
        have xn1 := hN9.c1
        have xn3 := hN9.c3
        by_cases hdue : d = true ∧ r.2.2 = 0
        · obtain ⟨rfl, hr0⟩ := hdue
          have hset := set_due (s := s) HTI1 HRk.out (hDue.2 rfl) (by rw [HRES.out]; exact hr0) (by rw [HRES.out]; exact HTI2)
          rw [HRES.out] at hset
          obtain ⟨hfit, hh0⟩ := hset
          have hmap := ((tset_map (s := s) (v := vv0) HTI1 HRk.out).1 (by rw [HRES.out]; exact hr0)).2.2.1
          rw [HRES.out] at hmap
          obtain ⟨D, dn, dz, d3, wr1, wr2, wr3, wr4, wr5⟩ : ∃ D dn dz d3 : Int, IntKind.i64.wrap (r.2.1.live - s.live) = D ∧ IntKind.i64.wrap ((r.1.p.n : Int) - (t.p.n : Int)) = dn ∧ IntKind.i64.wrap ((r.1.p.z : Int) - (t.p.z : Int)) = dz ∧ IntKind.i64.wrap (3 * dz) = d3 ∧ IntKind.i64.wrap (dn + d3) = D := by
            have o1 := hM9.ti.2.ok.l0
            have o2 := hM9.ti.2.ok.l1
            have o3 := hM9.ti.2.ok.l2
            have p1 := HM.out.ti.2.ok.l0
            have p2 := HM.out.ti.2.ok.l1
            have p3 := HM.out.ti.2.ok.l2
            have n1 := HT5.out.le
            have n2 := HT5.out.rt.le
            have n3 := HTI2.le
            have n4 := HTI2.rt.le
            refine ⟨_, _, _, _, rfl, rfl, rfl, rfl, ?_⟩
            simp only [IntKind.wrap_i64]
            omega
          have hDD : (D != D) = false := by simp
          rw [hh0] at hN9
          have HF : Hid (∀ wx, Below wc.heap.size wc wx → O6 wx ob kk vv0 ∧ R4 wx wb (.int .i64 (t.p.n : Nat)) (.int .i64 (t.p.z : Nat)) (.int .i64 (t.p.g.f : Nat)) (.int .i64 t.hint) ∧ R4 wx nb (.int .i64 (r.1.p.n : Nat)) (.int .i64 (r.1.p.z : Nat)) (.int .i64 (r.1.p.g.f : Nat)) (.int .i64 0)) := fun wx hx => ⟨hO9.below hx, hS9.below hx, hN9.below hx⟩
          have HS : Hid (∀ wx, (O6 wx ob kk vv0 ∧ R4 wx wb (.int .i64 (t.p.n : Nat)) (.int .i64 (t.p.z : Nat)) (.int .i64 (t.p.g.f : Nat)) (.int .i64 t.hint) ∧ R4 wx nb (.int .i64 (r.1.p.n : Nat)) (.int .i64 (r.1.p.z : Nat)) (.int .i64 (r.1.p.g.f : Nat)) (.int .i64 0)) → wx.cell? ⟨nb, 0, none⟩ = some (.int .i64 (r.1.p.n : Nat)) ∧ wx.cell? ⟨nb, 1, none⟩ = some (.int .i64 (r.1.p.z : Nat)) ∧ wx.cell? ⟨nb, 2, none⟩ = some (.int .i64 (r.1.p.g.f : Nat)) ∧ wx.cell? ⟨nb, 3, none⟩ = some (.int .i64 0) ∧ wx.cell? ⟨wb, 0, none⟩ = some (.int .i64 (t.p.n : Nat)) ∧ wx.cell? ⟨wb, 1, none⟩ = some (.int .i64 (t.p.z : Nat)) ∧ wx.cell? ⟨ob, 1, none⟩ = some (.int .i64 kk.1) ∧ wx.cell? ⟨ob, 2, none⟩ = some (.int .i64 kk.2.1) ∧ wx.cell? ⟨ob, 3, none⟩ = some (.string kk.2.2) ∧ wx.cell? ⟨ob, 4, none⟩ = some (.int .i64 vv0.1) ∧ wx.cell? ⟨ob, 5, none⟩ = some (.int .i64 vv0.2.1) ∧ wx.cell? ⟨ob, 6, none⟩ = some (.string vv0.2.2)) := fun wx hx => ⟨hx.2.2.c0, hx.2.2.c1, hx.2.2.c2, hx.2.2.c3, hx.2.1.c0, hx.2.1.c1, hx.1.c1, hx.1.c2, hx.1.c3, hx.1.c4, hx.1.c5, hx.1.c6⟩
          have HG0 : Hid (O6 wc.drew ob kk vv0 ∧ R4 wc.drew wb (.int .i64 (t.p.n : Nat)) (.int .i64 (t.p.z : Nat)) (.int .i64 (t.p.g.f : Nat)) (.int .i64 t.hint) ∧ R4 wc.drew nb (.int .i64 (r.1.p.n : Nat)) (.int .i64 (r.1.p.z : Nat)) (.int .i64 (r.1.p.g.f : Nat)) (.int .i64 0)) := HF.out _ (bdrew1 wc)
          have CPr := (hM9.below (bdrew1 wc)).present
          have HFi : Hid (∀ (wx : World) (v : Value) (F : Nat → V) (B : Nat), Lv wx B v (pres r.1.p).length F → Is F (pres r.1.p).length (pres r.1.p) → Calls Try.prog 16 #[ts r.1, v] wx fun e w'' => e = .returned (.bool true) ∧ Below wx.heap.size wx w'') := fun wx v F B hl hi => hM9.fits hl hi hfit
          have HLi : Hid (∀ wx, Below wc.heap.size wc wx → Calls Try.prog 12 #[tp S] wx fun e w' => e = .returned (.int .i64 r.2.1.live) ∧ w' = wx) := fun wx hx => (hM9.below hx).live
          have HGe : Hid (∀ wx, Below wc.heap.size wc wx → Calls Try.prog 10 #[tp T, vv kk] wx fun e w' => e = .returned (vv vv0) ∧ (∃ t', Ms P2 W w' X (.slice (some ⟨lb, off, none⟩) L' cap) T S hb (3 + 9 * k + 1 + 7 + 1) t' r.2.1 Lv0) ∧ O6 w' ob kk vv0 ∧ R4 w' wb (.int .i64 (t.p.n : Nat)) (.int .i64 (t.p.z : Nat)) (.int .i64 (t.p.g.f : Nat)) (.int .i64 t.hint) ∧ R4 w' nb (.int .i64 (r.1.p.n : Nat)) (.int .i64 (r.1.p.z : Nat)) (.int .i64 (r.1.p.g.f : Nat)) (.int .i64 0)) := fun wx hx => by
            refine ((hM9.below hx).get (by omega) kk HRk.out).mono ?_
            rintro e w' ⟨rfl, h1, h2⟩
            exact ⟨by rw [hmap], ⟨_, h1⟩, (hO9.below hx).kept h2 hPo, (hS9.below hx).kept h2 hPw, (hN9.below hx).kept h2 hPn⟩
          have Ne := neq32 vv0.1 vv0.2.1 vv0.1 vv0.2.1 vv0.2.2 vv0.2.2
          simp only [decide_true, Bool.not_true] at Ne
          unfold vl at Ne
          have g32 := guard32
          have xo1 := hO9.c1
          have xo2 := hO9.c2
          have xo3 := hO9.c3
          have xo4 := hO9.c4
          have xo5 := hO9.c5
          have xo6 := hO9.c6
          have xn2 := hN9.c2
          have hre : (r.2.2 != 0) = false := by simp [hr0]
          unfold tp at CPr
          clear hlv hlv' HTI1 HTI2 hDue hM9 hO9 hS9 hN9 HTB5 HT5 HT1 HM HAL HPo HRES HRk hfit hmap hPo hPw hPn hr0
          rw [hh0] at xn3
          go_upto_region 19 with fail
          go_cut [162] from 125 to 162 (fun bw wx => bw = .bool false ∧ Hid (∃ t', Ms P2 W wx X (.slice (some ⟨lb, off, none⟩) L' cap) T S hb (3 + 9 * k + 1 + 7 + 1) t' r.2.1 Lv0))
          case first =>
            go_region_held3 (fun w' => w'.cell? ⟨nb, 0, none⟩ = some (.int .i64 (r.1.p.n : Nat)) ∧ w'.cell? ⟨nb, 1, none⟩ = some (.int .i64 (r.1.p.z : Nat)) ∧ w'.cell? ⟨nb, 2, none⟩ = some (.int .i64 (r.1.p.g.f : Nat)) ∧ w'.cell? ⟨nb, 3, none⟩ = some (.int .i64 0) ∧ w'.cell? ⟨wb, 0, none⟩ = some (.int .i64 (t.p.n : Nat)) ∧ w'.cell? ⟨wb, 1, none⟩ = some (.int .i64 (t.p.z : Nat)) ∧ w'.cell? ⟨ob, 1, none⟩ = some (.int .i64 kk.1) ∧ w'.cell? ⟨ob, 2, none⟩ = some (.int .i64 kk.2.1) ∧ w'.cell? ⟨ob, 3, none⟩ = some (.string kk.2.2) ∧ w'.cell? ⟨ob, 4, none⟩ = some (.int .i64 vv0.1) ∧ w'.cell? ⟨ob, 5, none⟩ = some (.int .i64 vv0.2.1) ∧ w'.cell? ⟨ob, 6, none⟩ = some (.string vv0.2.2)) (exact HS.out _ (by first | exact HG0.out | exact HG1.out | exact HG2.out | exact HG4.out)) (first
              | (go_at_call 17; refine CPr.mono ?_; rintro e w1 ⟨v11, F11, rfl, hl1, hi1, hb1⟩; have hB1 : Below wc.heap.size wc w1 := bthen (bdrew1 wc) (Nat.le_refl _) hb1; have CFi := HFi.out w1 v11 F11 _ hl1 hi1; have HB1 : Hid (Below wc.heap.size wc w1) := hB1; have HG1 : Hid (O6 w1 ob kk vv0 ∧ R4 w1 wb (.int .i64 (t.p.n : Nat)) (.int .i64 (t.p.z : Nat)) (.int .i64 (t.p.g.f : Nat)) (.int .i64 t.hint) ∧ R4 w1 nb (.int .i64 (r.1.p.n : Nat)) (.int .i64 (r.1.p.z : Nat)) (.int .i64 (r.1.p.g.f : Nat)) (.int .i64 0)) := HF.out w1 hB1; unfold ts sv at CFi; rw [hh0] at CFi; clear hl1 hi1 hb1 hB1)
              | (go_at_call 16; refine CFi.mono ?_; rintro e w2 ⟨rfl, hb2⟩; have hB2 : Below wc.heap.size wc w2 := bthen HB1.out HB1.out.size hb2; have HG2 : Hid (O6 w2 ob kk vv0 ∧ R4 w2 wb (.int .i64 (t.p.n : Nat)) (.int .i64 (t.p.z : Nat)) (.int .i64 (t.p.g.f : Nat)) (.int .i64 t.hint) ∧ R4 w2 nb (.int .i64 (r.1.p.n : Nat)) (.int .i64 (r.1.p.z : Nat)) (.int .i64 (r.1.p.g.f : Nat)) (.int .i64 0)) := HF.out w2 hB2; have CLi := HLi.out w2 hB2; have CGe := HGe.out w2 hB2; unfold tp at CLi; unfold vv vl tp at CGe; clear hb2 hB2)
              | (go_at_call 12; refine CLi.mono ?_; rintro e w3 ⟨rfl, hw3⟩; rw [hw3]; clear hw3)
              | (go_at_call 10; refine CGe.mono ?_; rintro e w4 ⟨rfl, ht4, q4⟩; have HT4 : Hid (∃ t', Ms P2 W w4 X (.slice (some ⟨lb, off, none⟩) L' cap) T S hb (3 + 9 * k + 1 + 7 + 1) t' r.2.1 Lv0) := ht4; have HG4 : Hid (O6 w4 ob kk vv0 ∧ R4 w4 wb (.int .i64 (t.p.n : Nat)) (.int .i64 (t.p.z : Nat)) (.int .i64 (t.p.g.f : Nat)) (.int .i64 t.hint) ∧ R4 w4 nb (.int .i64 (r.1.p.n : Nat)) (.int .i64 (r.1.p.z : Nat)) (.int .i64 (r.1.p.g.f : Nat)) (.int .i64 0)) := q4; clear ht4 q4))
            all_goals
              go_wp2_with fail
              go_meet
              exact ⟨rfl, HT4⟩
          case rest =>
            obtain ⟨rfl, HX5⟩ := hcut
            go_wp2_with fail
            go_round
            case rel =>
              obtain ⟨t', h'⟩ := HX5.out
              exact ⟨k + 1, by go_num, by omega, ⟨_, _, _, _, h'.more (by omega)⟩⟩
            case measure => simp [intOf]; omega
        · have hsame : r.1.p.n = t.p.n ∧ r.1.p.z = t.p.z := by
            have h := set_same (s := s) (v := vv0) HTI1 HRk.out (by rw [hDue, HRES.out]; exact hdue)
            rw [HRES.out, HT1.out] at h
            exact h
          have CL := fun W' hW => (hM9.below (w' := W') hW).live
          rw [show r.2.1.live = s.live by rw [hlv, hlv', hsame.1, hsame.2]] at CL
          rw [hsame.1] at xn0
          rw [hsame.2] at xn1
          have CLc := CL wc (Below.refl _ _)
          have HMc : Hid (Ms P2 W wc X (.slice (some ⟨lb, off, none⟩) L' cap) T S hb (3 + 9 * k + 1 + 7) r.1 r.2.1 Lv0) := hM9
          clear CL hlv hlv' HTI1 HTI2 hDue hM9 hO9 hS9 hN9 hsame xn3 HTB5 HT5 HT1 HM HAL HPo HRES
          unfold tp at CLc
          generalize s.live = lv at *
          generalize (t.p.n : Nat) = n at *
          generalize (t.p.z : Nat) = z at *
          generalize hre : r.2.2 = re at *
          cases d with
          | false =>
            go_wp2_with fail
            refine CLc.mono ?_; rintro e w9 ⟨rfl, hw9⟩; rw [hw9]; clear hw9
            go_wp2_with fail
            go_round
            case rel => exact ⟨k + 1, by go_num, by omega, ⟨_, _, _, _, HMc.out.more (by omega)⟩⟩
            case measure => simp [intOf]; omega
          | true =>
            have hre0 : re ≠ 0 := fun q => hdue ⟨rfl, q⟩
            have he1 : (re != 0) = true := by simpa using hre0
            have he2 : (re == 0) = false := by simpa using hre0
            clear hdue hre0
            go_wp2_with fail
            refine CLc.mono ?_; rintro e w9 ⟨rfl, hw9⟩; rw [hw9]; clear hw9
            go_wp2_with fail
            go_round
            case rel => exact ⟨k + 1, by go_num, by omega, ⟨_, _, _, _, HMc.out.more (by omega)⟩⟩
            case measure => simp [intOf]; omega
    · have hA : ¬ (k : Int) < (L' : Int) := by omega
      have HBl : Hid (Below X W wr) := hM.bel
      clear hM
      go_wp2_with fail
      go_ret
      exact ⟨rfl, HBl.out⟩
end Go.Proofs.Ytonopchpnhninaa
