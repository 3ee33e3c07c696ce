/- The walk of Next. -/
import Derived.Test.YtoomlihccniooaaGreatCg44
import Derived.Test.YtoomlihccniooaaGreatCg18
namespace Go.Proofs.YtoomlihccniooaaGreat
open Go.RowKit Go.Shelf
attribute [local go_sem] Oper.semAt_some

theorem ownFrom_of {β : Type} {B : Nat} {I : β → World → Prop} (h : ∀ s W W', I s W → Keep (fun g => g < B) W W' → I s W') : OwnFrom B I := fun s W W' row hs hg hr =>
  by
    obtain ⟨g1, g2, g3, g4, g5⟩ := hg
    exact h s W W' hs ⟨g1, g2, g3, g4, fun g hl hB => g5 g hl (fun e => by have hB' : g < B := hB; have := (hr g e.symm).1; omega)⟩
/-- The blocks of Next: the key's, the answers'. -/
theorem next_blocks (w : World) (k : V) : let W0 := (((w.alloc (vb k.1 k.2.1 k.2.2)).alloc (vb 0 0 ⟨#[]⟩)).alloc (vb 0 0 ⟨#[]⟩)).alloc (.cells #[.int .i64 0] 34)
    Below w.heap.size w W0 ∧ W0.heap.size = w.heap.size + 4 ∧ Bx W0 w.heap.size k ∧ R3 W0 (w.heap.size + 1) nil ∧ R3 W0 (w.heap.size + 2) nil ∧ W0.cell? ⟨w.heap.size + 3, 0, none⟩ = some (.int .i64 0) ∧ W0.frozen? ⟨w.heap.size + 3, 0, none⟩ = false := by
  intro W0
  have e1 : (w.alloc (vb k.1 k.2.1 k.2.2)).heap.size = w.heap.size + 1 := by simp
  have e2 : ((w.alloc (vb k.1 k.2.1 k.2.2)).alloc (vb 0 0 ⟨#[]⟩)).heap.size = w.heap.size + 2 := by simp
  have e3 : (((w.alloc (vb k.1 k.2.1 k.2.2)).alloc (vb 0 0 ⟨#[]⟩)).alloc (vb 0 0 ⟨#[]⟩)).heap.size = w.heap.size + 3 := by simp
  have r1 : R3 ((w.alloc (vb k.1 k.2.1 k.2.2)).alloc (vb 0 0 ⟨#[]⟩)) (w.alloc (vb k.1 k.2.1 k.2.2)).heap.size nil := R3.made _ nil
  have r2 : R3 (((w.alloc (vb k.1 k.2.1 k.2.2)).alloc (vb 0 0 ⟨#[]⟩)).alloc (vb 0 0 ⟨#[]⟩)) ((w.alloc (vb k.1 k.2.1 k.2.2)).alloc (vb 0 0 ⟨#[]⟩)).heap.size nil := R3.made _ nil
  rw [e1] at r1
  rw [e2] at r2
  have h3 := (MapKept.heap_alloc (((w.alloc (vb k.1 k.2.1 k.2.2)).alloc (vb 0 0 ⟨#[]⟩)).alloc (vb 0 0 ⟨#[]⟩)) (.cells #[.int .i64 0] 34)).1
  rw [e3] at h3
  have f3 := new_free (((w.alloc (vb k.1 k.2.1 k.2.2)).alloc (vb 0 0 ⟨#[]⟩)).alloc (vb 0 0 ⟨#[]⟩)) #[.int .i64 0] 34 0
  rw [e3] at f3
  exact ⟨bthen (b2 w _ _) (b2 w _ _).size (b2 _ _ _), by simp [W0], (((Bx.made w k).below (b1 _ _)).below (b1 _ _)).below (b1 _ _), (r1.below (b1 _ _)).below (b1 _ _), r2.below (b1 _ _), cell_of_row h3 0, f3⟩
/-- What Next answers, and what it leaves. -/
def NxP (No : Nat → Prop) (w : World) (T A b a S hb c : Nat) (t : TS) (s : H.St) (k : V) (e : Ending) (w' : World) : Prop :=
  e = .returned (.tuple #[vv (wnx t.p k).1, vv (wnx t.p k).2.1, .int .i64 (wnx t.p k).2.2]) ∧ TT No w' T A b a S hb (c + 1) { t with pr := t.pr + (if fm k = true ∧ k.1 ≠ 0 then prd t.p k else 0 : Nat) } s ∧ Keep No w w'
/-- Two boxes side by side. -/
structure Box2 (W : World) (B : Nat) (x : V × V) : Prop where
  k0 : W.cell? ⟨B, 0, none⟩ = some (.int .i64 x.1.1)
  k1 : W.cell? ⟨B, 1, none⟩ = some (.int .i64 x.1.2.1)
  k2 : W.cell? ⟨B, 2, none⟩ = some (.string x.1.2.2)
  v0 : W.cell? ⟨B + 1, 0, none⟩ = some (.int .i64 x.2.1)
  v1 : W.cell? ⟨B + 1, 1, none⟩ = some (.int .i64 x.2.2.1)
  v2 : W.cell? ⟨B + 1, 2, none⟩ = some (.string x.2.2.2)
theorem Box2.own {W W' : World} {row : Option Nat} {B : Nat} {x : V × V} (h : Box2 W B x) (hg : W.grownBy W' row) (hr : ∀ r, row = some r → ∃ o : Obj, W.heap[r]? = some o ∧ o.isCells = false) : Box2 W' B x :=
  ⟨cell_kept h.k0 hg hr, cell_kept h.k1 hg hr, cell_kept h.k2 hg hr, cell_kept h.v0 hg hr, cell_kept h.v1 hg hr, cell_kept h.v2 hg hr⟩
theorem Box2.kept {Ks : Nat → Prop} {W W' : World} {B : Nat} {x : V × V} (h : Box2 W B x) (k : Keep Ks W W') (h1 : Ks B) (h2 : Ks (B + 1)) : Box2 W' B x := by
  have e1 := k.block B (World.block_lt_of_cell? W _ h.k0) h1
  have e2 := k.block (B + 1) (World.block_lt_of_cell? W _ h.v0) h2
  exact ⟨by rw [World.cell?_of_block (w := W) e1]; exact h.k0, by rw [World.cell?_of_block (w := W) e1]; exact h.k1, by rw [World.cell?_of_block (w := W) e1]; exact h.k2, by rw [World.cell?_of_block (w := W) e2]; exact h.v0, by rw [World.cell?_of_block (w := W) e2]; exact h.v1, by rw [World.cell?_of_block (w := W) e2]; exact h.v2⟩
theorem Box2.made (W : World) (x : V × V) : Box2 ((W.alloc (.cells #[.int .i64 x.1.1, .int .i64 x.1.2.1, .string x.1.2.2] 31)).alloc (.cells #[.int .i64 x.2.1, .int .i64 x.2.2.1, .string x.2.2.2] 31)) W.heap.size x := by
  have a1 : Bx ((W.alloc (vb x.1.1 x.1.2.1 x.1.2.2)).alloc (vb x.2.1 x.2.2.1 x.2.2.2)) W.heap.size x.1 := (Bx.made W x.1).below (b1 _ _)
  have a2 : Bx ((W.alloc (vb x.1.1 x.1.2.1 x.1.2.2)).alloc (vb x.2.1 x.2.2.1 x.2.2.2)) (W.alloc (vb x.1.1 x.1.2.1 x.1.2.2)).heap.size x.2 := Bx.made _ x.2
  rw [show (W.alloc (vb x.1.1 x.1.2.1 x.1.2.2)).heap.size = W.heap.size + 1 by simp] at a2
  exact ⟨a1.c0, a1.c1, a1.c2, a2.c0, a2.c1, a2.c2⟩
/-- The answers of Next in their blocks, all else as it was. -/
structure Nfin (WL : World) (N : Nat) (x : V × V) (W : World) : Prop where
  b1 : Bx W (N + 1) x.1
  b2 : Bx W (N + 2) x.2
  c3 : W.cell? ⟨N + 3, 0, none⟩ = some (.int .i64 0)
  keep : Keep (fun g => g < WL.heap.size ∧ g ≠ N + 1 ∧ g ≠ N + 2 ∧ g ≠ N + 3) WL W
theorem Nfin.kept {WL : World} {N : Nat} {x : V × V} {W W' : World} (h : Nfin WL N x W) (hN : N + 4 ≤ WL.heap.size) (k : Keep (fun g => g < WL.heap.size) W W') : Nfin WL N x W' :=
  ⟨h.b1.kept k (by show N + 1 < _; omega), h.b2.kept k (by show N + 2 < _; omega), by rw [World.cell?_of_block (w := W) (k.block _ (World.block_lt_of_cell? W _ h.c3) (by show N + 3 < _; omega))]; exact h.c3, h.keep.trans (k.sub (fun g q => q.1))⟩
theorem Nfin.drew {WL : World} {N : Nat} {x : V × V} {W : World} (h : Nfin WL N x W) : Nfin WL N x W.drew := ⟨h.b1.kept (No := fun _ => True) ((Keep.refl _ W).drew) trivial, h.b2.kept (No := fun _ => True) ((Keep.refl _ W).drew) trivial, h.c3, h.keep.drew⟩
theorem nfin_of {WL W : World} {N : Nat} (hk : Keep (fun g => g < WL.heap.size) WL W) (r1 : R3 W (N + 1) nil) (r2 : R3 W (N + 2) nil) (c3 : W.cell? ⟨N + 3, 0, none⟩ = some (.int .i64 0)) (f3 : W.frozen? ⟨N + 3, 0, none⟩ = false) (x : V × V) :
    Nfin WL N x ((set3 (set3 W (N + 1) x.1) (N + 2) x.2).setCell ⟨N + 3, 0, none⟩ (.int .i64 0)) ∧ R3 (set3 W (N + 1) x.1) (N + 2) nil ∧ (set3 (set3 W (N + 1) x.1) (N + 2) x.2).cell? ⟨N + 3, 0, none⟩ = some (.int .i64 0) ∧ (set3 (set3 W (N + 1) x.1) (N + 2) x.2).frozen? ⟨N + 3, 0, none⟩ = false := by
  have k1 : Keep (fun g => g ≠ N + 1) W (set3 W (N + 1) x.1) := (Keep.refl _ W).set3 (fun q => q rfl) x.1
  have s1 := r1.set x.1
  obtain ⟨Wa, hWa⟩ : ∃ Wa, set3 W (N + 1) x.1 = Wa := ⟨_, rfl⟩
  rw [hWa] at k1 s1 ⊢
  have a2 := r2.kept k1 (by show N + 2 ≠ N + 1; omega)
  have k2 : Keep (fun g => g ≠ N + 2) Wa (set3 Wa (N + 2) x.2) := (Keep.refl _ _).set3 (fun q => q rfl) x.2
  have a3 := a2.set x.2
  obtain ⟨Wb, hWb⟩ : ∃ Wb, set3 Wa (N + 2) x.2 = Wb := ⟨_, rfl⟩
  rw [hWb] at k2 a3 ⊢
  have a1 := s1.kept k2 (by show N + 1 ≠ N + 2; omega)
  have e1 := k1.block (N + 3) (World.block_lt_of_cell? W _ c3) (by show N + 3 ≠ N + 1; omega)
  have c4 : Wa.cell? ⟨N + 3, 0, none⟩ = some (.int .i64 0) := by rw [World.cell?_of_block (w := W) e1]; exact c3
  have e2 := k2.block (N + 3) (World.block_lt_of_cell? _ _ c4) (by show N + 3 ≠ N + 2; omega)
  have c5 : Wb.cell? ⟨N + 3, 0, none⟩ = some (.int .i64 0) := by rw [World.cell?_of_block (w := Wa) e2]; exact c4
  have f5 : Wb.frozen? ⟨N + 3, 0, none⟩ = false := by rw [World.frozen?_of_block (w := Wa) e2, World.frozen?_of_block (w := W) e1]; exact f3
  have k3 : Keep (fun g => g ≠ N + 3) Wb (Wb.setCell ⟨N + 3, 0, none⟩ (.int .i64 0)) := (Keep.refl _ _).set (p := ⟨N + 3, 0, none⟩) (fun q => q rfl) _
  refine ⟨⟨(a1.kept k3 (by show N + 1 ≠ N + 3; omega)).bx, (a3.kept k3 (by show N + 2 ≠ N + 3; omega)).bx, World.cell?_setCell_same _ _ _ c5, ?_⟩, a2, c5, f5⟩
  exact (((hk.sub (fun g q => q.1)).trans (k1.sub (fun g q => q.2.1))).trans (k2.sub (fun g q => q.2.2.1))).trans (k3.sub (fun g q => q.2.2.2))
theorem chk_ok {k : V} (h : fm k = true) : chk k.1 k.2.1 k.2.2 = 0 := by rw [chk_of, if_pos h]
theorem plc_le {p : Pa} (h : TI p) {k : V} (hk : KOK k) : plc p k ≤ ((p.n + p.z : Nat) : Int) := by
  unfold plc
  split
  · rename_i q; have := q.2.2.2; omega
  · by_cases hz : p.z = 0
    · have e : (fnd p.z p.g k).1 = none := by unfold fnd; rw [if_pos (.inl hz)]
      rw [e]; simp only; omega
    · rw [fnd_good hz hk]
      cases hf : find (pl p.z) p.g k with
      | mk o n =>
        cases o with
        | none => simp only; omega
        | some i =>
          have := (h.inv.find_some (fun k _ => pl_lt (h.rt.resolve_left hz) k) hk hf).2.1
          simp only; omega
set_option maxRecDepth 100000 in
set_option maxHeartbeats 4000000 in
theorem next_nil {No : Nat → Prop} {w : World} {T A b a S hb c : Nat} {t : TS} {s : H.St} (h : TT No w T A b a S hb c t s) :
    CallsIn Fence.wide 6 Tryz.prog 22 #[tp T, vv nil] w (NxP No w T A b a S hb c t s nil) := by
  obtain ⟨B0, hsz, X, R1, R2, c3, f3⟩ := next_blocks w nil
  have hEw : wnx t.p nil = ((pnx t.p 0).1, (pnx t.p 0).2, 0) := by
    unfold wnx
    rw [if_neg (by rw [fm_nil]; simp), if_pos (show nil.1 = 0 from rfl)]
  have hNo : ∀ g, No g → g < w.heap.size := fun g q => by
    obtain ⟨vb, hp⟩ := h.hp
    exact hp.nos _ (.inl q)
  have ti := h.ti
  have hEr : ((if fm nil = true ∧ nil.1 ≠ 0 then prd t.p nil else 0 : Nat)) = 0 := if_neg (fun q => q.2 rfl)
  obtain ⟨W0, hW0⟩ : ∃ W0, (((w.alloc (vb nil.1 nil.2.1 nil.2.2)).alloc (vb 0 0 ⟨#[]⟩)).alloc (vb 0 0 ⟨#[]⟩)).alloc (.cells #[.int .i64 0] 34) = W0 := ⟨_, rfl⟩
  rw [hW0] at B0 hsz X R1 R2 c3 f3
  have C1 : CallsIn Fence.wide 5 Tryz.prog 31 #[.agg #[.int .i64 0, .int .i64 0, .string ⟨#[]⟩]] W0 fun e w' => e = .returned (.int .i64 0) ∧ w' = W0.alloc (vb 0 0 ⟨#[]⟩) := by
    have q := check_any nil.1 nil.2.1 nil.2.2 W0
    rw [chk_ok fm_nil] at q
    exact callsIn_wide.2 q
  have x0 : W0.cell? ⟨w.heap.size, 0, none⟩ = some (.int .i64 0) := X.c0
  have x1 : W0.cell? ⟨w.heap.size, 1, none⟩ = some (.int .i64 0) := X.c1
  have x2 : W0.cell? ⟨w.heap.size, 2, none⟩ = some (.string ⟨#[]⟩) := X.c2
  have B1 := b1 W0 (vb 0 0 ⟨#[]⟩)
  have z1 : (W0.alloc (vb 0 0 ⟨#[]⟩)).heap.size = w.heap.size + 5 := by simp; omega
  obtain ⟨W2, hW2⟩ : ∃ W2, W0.alloc (vb 0 0 ⟨#[]⟩) = W2 := ⟨_, rfl⟩
  rw [hW2] at C1 B1 z1
  have y0 : W2.cell? ⟨w.heap.size, 0, none⟩ = some (.int .i64 0) := (X.below B1).c0
  have hS2 : w.heap.size + 5 ≤ W2.heap.size := by omega
  have R1' := R1.below B1
  have R2' := R2.below B1
  have c3' : W2.cell? ⟨w.heap.size + 3, 0, none⟩ = some (.int .i64 0) := by rw [World.cell?_of_block (w := W0) (B1.block (w.heap.size + 3) (by omega))]; exact c3
  have f3' : W2.frozen? ⟨w.heap.size + 3, 0, none⟩ = false := by rw [World.frozen?_of_block (w := W0) (B1.block (w.heap.size + 3) (by omega))]; exact f3
  have hT2 : ∃ No2 : Nat → Prop, (∀ g, No g → No2 g) ∧ No2 (w.heap.size + 1) ∧ No2 (w.heap.size + 2) ∧ No2 (w.heap.size + 3) ∧ TT No2 W2 T A b a S hb (c + 1) { t with pr := t.pr + ((if fm nil = true ∧ nil.1 ≠ 0 then prd t.p nil else 0 : Nat) : Int) } s ∧ Keep No w W2 := by
    have kb := bthen B0 B0.size B1
    rw [hEr]
    have e0 : ({ t with pr := t.pr + ((0 : Nat) : Int) } : TS) = t := by simp
    rw [e0]
    exact ⟨_, fun g q => .inl q, .inr ⟨by omega, by omega⟩, .inr ⟨by omega, by omega⟩, .inr ⟨by omega, by omega⟩, (h.news kb).more (by omega), Keep.of kb⟩
  have htm : ∃ t', t'.p = t.p ∧ Tm W2 T A b a S t' := ⟨t, rfl, h.tm.below (bthen B0 B0.size B1)⟩
  clear z1
  unfold vb at hW0 hW2
  unfold nil at hW0
  unfold tp vv vl
  have hmo : Tryz.prog.follows Departure.mixedOrders = true := by kernel_rfl
  unfold NxP
  rw [hEw]
  unfold vv vl
  unfold nil
  clear hEw
  refine callsIn_of_wp_marks Tryz.func22 rfl trivial ?_ rfl
  simp only [Tryz.ntmps22, List.size_toArray, List.length_cons, List.length_nil, Nat.reduceAdd, Nat.reduceSub, Array.replicate_succ, Array.replicate_zero, List.push_toArray, List.append_toArray, List.nil_append, List.cons_append]
  gi_wp2_with (first
    | (refine ⟨trivial, ?_⟩; gi_at_call 31; refine C1.mono ?_; rintro e w1 ⟨rfl, hw1⟩; rw [hw1]; clear hw1 C1)
    | (refine ⟨trivial, ?_⟩; gi_at_call 53; refine (callsIn_wide.2 (behind_any _ _ _)).mono ?_; rintro e w1 ⟨rfl, hw1⟩; rw [hw1]; clear hw1))
  obtain ⟨t', etp, htm'⟩ := htm
  have BL := b2 W2 (.cells #[.pointer (some ⟨T, 0, none⟩)] 26) (.cells #[.int .i64 0] 3)
  have hL : ((W2.alloc (.cells #[.pointer (some ⟨T, 0, none⟩)] 26)).alloc (.cells #[.int .i64 0] 3)).heap.size = W2.heap.size + 2 := by simp
  have hxt : ((W2.alloc (.cells #[.pointer (some ⟨T, 0, none⟩)] 26)).alloc (.cells #[.int .i64 0] 3)).cell? ⟨W2.heap.size, 0, none⟩ = some (tp T) := by
    rw [(b1 (W2.alloc (.cells #[.pointer (some ⟨T, 0, none⟩)] 26)) (.cells #[.int .i64 0] 3)).cell (by simp)]
    exact cell_of_row (MapKept.heap_alloc W2 _).1 0
  have hxp : ((W2.alloc (.cells #[.pointer (some ⟨T, 0, none⟩)] 26)).alloc (.cells #[.int .i64 0] 3)).cell? ⟨W2.heap.size + 1, 0, none⟩ = some (.int .i64 0) := by
    have q := (MapKept.heap_alloc (W2.alloc (.cells #[.pointer (some ⟨T, 0, none⟩)] 26)) (.cells #[.int .i64 0] 3)).1
    rw [show (W2.alloc (.cells #[.pointer (some ⟨T, 0, none⟩)] 26)).heap.size = W2.heap.size + 1 by simp] at q
    exact cell_of_row q 0
  obtain ⟨WL, hWL⟩ : ∃ WL, (W2.alloc (.cells #[.pointer (some ⟨T, 0, none⟩)] 26)).alloc (.cells #[.int .i64 0] 3) = WL := ⟨_, rfl⟩
  rw [hWL] at BL hL hxt hxp ⊢
  have hIt : It WL (fun g => g < WL.heap.size) W2.heap.size (W2.heap.size + 1) T A b a S t' 0 := ⟨htm'.below BL, hxt, hxp, by
    have q := (htm'.below BL).pm
    have q2 := q.pt.ltb
    have q3 := q.pt.lta
    exact ⟨q.ltB, q.ltA, q2, q3, by omega, by omega⟩⟩
  have RL1 := R1'.below BL
  have RL2 := R2'.below BL
  have cL3 : WL.cell? ⟨w.heap.size + 3, 0, none⟩ = some (.int .i64 0) := by rw [World.cell?_of_block (w := W2) (BL.block (w.heap.size + 3) (by omega))]; exact c3'
  have fL3 : WL.frozen? ⟨w.heap.size + 3, 0, none⟩ = false := by rw [World.frozen?_of_block (w := W2) (BL.block (w.heap.size + 3) (by omega))]; exact f3'
  have HFin : Hid (∀ W, Keep (fun g => g < WL.heap.size ∧ g ≠ w.heap.size + 1 ∧ g ≠ w.heap.size + 2 ∧ g ≠ w.heap.size + 3) WL W → TT No W T A b a S hb (c + 1) { t with pr := t.pr + ((if fm nil = true ∧ nil.1 ≠ 0 then prd t.p nil else 0 : Nat) : Int) } s ∧ Keep No w W) := fun W q => by
    obtain ⟨No2, n0, n1, n2, n3, tt2, kk2⟩ := hT2
    have hTL := tt2.below BL
    have hf := hTL.frame2 q.os q.tape q.output q.size (fun g hg hn => q.block g hg ⟨hg, fun e => hn (e ▸ n1), fun e => hn (e ▸ n2), fun e => hn (e ▸ n3)⟩)
    refine ⟨hf.sub (fun g hg => .inl (n0 g hg)), (kk2.trans (Keep.of BL)).trans (q.sub (fun g hg => ?_))⟩
    have := hNo g hg; exact ⟨by omega, by omega, by omega, by omega⟩
  have tip : TI t'.p := by rw [etp]; exact ti
  have epn : pnx t.p 0 = pnx t'.p 0 := by rw [etp]
  refine wpIn_rangeFunc_ownH (n := 6) rfl (by omega) (gf := 81) (lb := #[.pointer (some ⟨W2.heap.size, 0, none⟩), .pointer (some ⟨W2.heap.size + 1, 0, none⟩)]) rfl trivial (enters_of Tryz.func81 (by kernel_rfl) rfl)
    (iter_stops (fun g => g < WL.heap.size) W2.heap.size (W2.heap.size + 1) T A b a S t' tip 0 (by rw [etp]; omega) WL hIt) keepK_t (keepK_b (fun g q => q)) (Below.refl _ _) (fun _ => rfl)
    (fun pre W => pre = [] ∧ Keep (fun g => g < WL.heap.size) WL W)
    (fun cd pre W => cd = .ret ∧ ∃ x, pre = [x] ∧ Nfin WL w.heap.size x W)
    (ownFrom_of fun s W W' hs hk => ⟨hs.1, hs.2.trans hk⟩) (fun cd => ownFrom_of fun s W W' hs hk => ⟨hs.1, hs.2.choose, hs.2.choose_spec.1, hs.2.choose_spec.2.kept (by omega) hk⟩) ⟨rfl, Keep.refl _ _⟩
    (fun x a' W => ∃ Bk, WL.heap.size ≤ Bk ∧ Box2 W Bk x ∧ a' = { tmps := #[.pointer (some ⟨T, 0, none⟩), .agg #[.int .i64 0, .int .i64 0, .string ⟨#[]⟩], undef, .pointer (some ⟨w.heap.size, 0, none⟩), .pointer (some ⟨w.heap.size + 1, 0, none⟩), .pointer (some ⟨w.heap.size + 1 + 1, 0, none⟩), .pointer (some ⟨w.heap.size + 1 + 1 + 1, 0, none⟩), .int .i64 0, .int .i64 0, .pointer (some ⟨Bk, 0, none⟩), .pointer (some ⟨Bk + 1, 0, none⟩), .agg #[.int .i64 0, .int .i64 0, .string ⟨#[]⟩], .int .i64 0, .int .i64 0, .bool false, undef, undef, .pointer (some ⟨w.heap.size, 0, none⟩), .int .i64 0, .bool false, undef, undef, undef, undef, undef, undef, undef, .pointer (some ⟨T, 0, none⟩), .int .i64 0, .func (.func 81) #[] #[.pointer (some ⟨W2.heap.size, 0, none⟩), .pointer (some ⟨W2.heap.size + 1, 0, none⟩)], .agg #[.int .i64 x.1.1, .int .i64 x.1.2.1, .string x.1.2.2], .agg #[.int .i64 x.2.1, .int .i64 x.2.2.1, .string x.2.2.2], undef, undef, undef, undef], defers := [] })
    (fun x a' => fun _ A' B' row hs hg hr => ⟨hs.choose, hs.choose_spec.1, hs.choose_spec.2.1.own hg (fun r e => (hr r e).2), hs.choose_spec.2.2⟩) ?assign ?body ?done ?stop
  case assign =>
    rintro l pre x W K ⟨hpre, hkw⟩ hK
    have hb2 := Box2.made W x
    have kk : Keep (fun g => g < WL.heap.size) W ((W.alloc (.cells #[.int .i64 x.1.1, .int .i64 x.1.2.1, .string x.1.2.2] 31)).alloc (.cells #[.int .i64 x.2.1, .int .i64 x.2.2.1, .string x.2.2.2] 31)) := ((Keep.refl _ W).alloc _).alloc _
    have ko := ((KeepsOthers.alloc W (.cells #[.int .i64 x.1.1, .int .i64 x.1.2.1, .string x.1.2.2] 31)).trans (KeepsOthers.alloc _ (.cells #[.int .i64 x.2.1, .int .i64 x.2.2.1, .string x.2.2.2] 31))).from WL.heap.size
    have hks := hkw.size
    unfold encP
    gi_wp2
    exact hK _ _ ko kk ⟨hpre, hkw.trans kk⟩ ⟨W.heap.size, hks, hb2, by simp⟩
  case body =>
    rintro l pre x a' W hl _ ⟨hpre, hkw⟩ ⟨Bk, hBk, hbx, rfl⟩ _
    obtain ⟨q1, q2, q3, q4⟩ := nfin_of (WL := WL) (N := w.heap.size) hkw (RL1.kept hkw (by show w.heap.size + 1 < _; omega)) (RL2.kept hkw (by show w.heap.size + 2 < _; omega)) (by rw [World.cell?_of_block (w := WL) (hkw.block (w.heap.size + 3) (by omega) (by show w.heap.size + 3 < _; omega))]; exact cL3) (by rw [World.frozen?_of_block (w := WL) (hkw.block (w.heap.size + 3) (by omega) (by show w.heap.size + 3 < _; omega))]; exact fL3) x
    have RW1 := RL1.kept hkw (by show w.heap.size + 1 < _; omega)
    have d0 : W.cell? ⟨w.heap.size + 1, 0, none⟩ = some (.int .i64 0) := RW1.bx.c0
    have d1 : W.cell? ⟨w.heap.size + 1, 1, none⟩ = some (.int .i64 0) := RW1.bx.c1
    have d2 : W.cell? ⟨w.heap.size + 1, 2, none⟩ = some (.string ⟨#[]⟩) := RW1.bx.c2
    have df := RW1.fz
    have ko : KeepsOthers W ((set3 (set3 W (w.heap.size + 1) x.1) (w.heap.size + 2) x.2).setCell ⟨w.heap.size + 3, 0, none⟩ (.int .i64 0)) := (((((((KeepsOthers.setCell _ _ _).trans (KeepsOthers.setCell _ _ _)).trans (KeepsOthers.setCell _ _ _)).trans (KeepsOthers.setCell _ _ _)).trans (KeepsOthers.setCell _ _ _)).trans (KeepsOthers.setCell _ _ _)).trans (KeepsOthers.setCell _ _ _))
    have hbxa : Box2 (set3 W (w.heap.size + 1) x.1) Bk x := hbx.kept (Ks := fun g => g ≠ w.heap.size + 1) ((Keep.refl _ W).set3 (fun q => q rfl) x.1) (by show Bk ≠ _; omega) (by show Bk + 1 ≠ _; omega)
    have n0 := hbx.k0
    have n1 := hbx.k1
    have n2 := hbx.k2
    have n3 := hbx.v0
    have n4 := hbx.v1
    have n5 := hbx.v2
    obtain ⟨Wa, hWa⟩ : ∃ Wa, set3 W (w.heap.size + 1) x.1 = Wa := ⟨_, rfl⟩
    rw [hWa] at q1 q2 q3 q4 ko hbxa
    have e0 : Wa.cell? ⟨w.heap.size + 1 + 1, 0, none⟩ = some (.int .i64 0) := q2.bx.c0
    have e1 : Wa.cell? ⟨w.heap.size + 1 + 1, 1, none⟩ = some (.int .i64 0) := q2.bx.c1
    have e2 : Wa.cell? ⟨w.heap.size + 1 + 1, 2, none⟩ = some (.string ⟨#[]⟩) := q2.bx.c2
    have ef : ∀ j, Wa.frozen? ⟨w.heap.size + 1 + 1, j, none⟩ = false := q2.fz
    obtain ⟨Wb, hWb⟩ : ∃ Wb, set3 Wa (w.heap.size + 1 + 1) x.2 = Wb := ⟨_, rfl⟩
    have hWb' : set3 Wa (w.heap.size + 2) x.2 = Wb := hWb
    rw [hWb'] at q1 q3 q4 ko
    have g0 : Wb.cell? ⟨w.heap.size + 1 + 1 + 1, 0, none⟩ = some (.int .i64 0) := q3
    have gf : Wb.frozen? ⟨w.heap.size + 1 + 1 + 1, 0, none⟩ = false := q4
    obtain ⟨Wc, hWc⟩ : ∃ Wc, Wb.setCell ⟨w.heap.size + 1 + 1 + 1, 0, none⟩ (.int .i64 0) = Wc := ⟨_, rfl⟩
    have hWc' : Wb.setCell ⟨w.heap.size + 3, 0, none⟩ (.int .i64 0) = Wc := hWc
    rw [hWc'] at q1 ko
    unfold set3 at hWa hWb
    have HQ : Hid (Nfin WL w.heap.size x Wc) := q1
    have HKo : Hid (KeepsOthers W Wc) := ko
    have m3 := hbxa.v0
    have m4 := hbxa.v1
    have m5 := hbxa.v2
    clear q1 q2 q3 q4 ko hWb' hWc' RW1
    gi_wp2
    gi_region_with_o fail
    all_goals
      gi_wp2
      first | exact ⟨HKo.out.from _, rfl, x, by rw [hpre]; rfl, HQ.out⟩ | exact ⟨(HKo.out.trans (KeepsOthers.drew _)).from _, rfl, x, by rw [hpre]; rfl, HQ.out.drew⟩
  case done =>
    rintro D xs W hD hxs ⟨hpre, hkw⟩ hK
    have hval : pnx t.p 0 = ((nil, nil) : V × V) := by
      rw [epn]; unfold pnx; rw [hpre] at hxs; exact lsF_nil hxs.symm
    obtain ⟨q1, q2, q3, q4⟩ := nfin_of (WL := WL) (N := w.heap.size) hkw (RL1.kept hkw (by show w.heap.size + 1 < _; omega)) (RL2.kept hkw (by show w.heap.size + 2 < _; omega)) (by rw [World.cell?_of_block (w := WL) (hkw.block (w.heap.size + 3) (by omega) (by show w.heap.size + 3 < _; omega))]; exact cL3) (by rw [World.frozen?_of_block (w := WL) (hkw.block (w.heap.size + 3) (by omega) (by show w.heap.size + 3 < _; omega))]; exact fL3) ((nil, nil) : V × V)
    have RW1 := RL1.kept hkw (by show w.heap.size + 1 < _; omega)
    have d0 : W.cell? ⟨w.heap.size + 1, 0, none⟩ = some (.int .i64 0) := RW1.bx.c0
    have d1 : W.cell? ⟨w.heap.size + 1, 1, none⟩ = some (.int .i64 0) := RW1.bx.c1
    have d2 : W.cell? ⟨w.heap.size + 1, 2, none⟩ = some (.string ⟨#[]⟩) := RW1.bx.c2
    have df := RW1.fz
    have ko : KeepsOthers W ((set3 (set3 W (w.heap.size + 1) ((nil, nil) : V × V).1) (w.heap.size + 2) ((nil, nil) : V × V).2).setCell ⟨w.heap.size + 3, 0, none⟩ (.int .i64 0)) := (((((((KeepsOthers.setCell _ _ _).trans (KeepsOthers.setCell _ _ _)).trans (KeepsOthers.setCell _ _ _)).trans (KeepsOthers.setCell _ _ _)).trans (KeepsOthers.setCell _ _ _)).trans (KeepsOthers.setCell _ _ _)).trans (KeepsOthers.setCell _ _ _))
    obtain ⟨Wa, hWa⟩ : ∃ Wa, set3 W (w.heap.size + 1) ((nil, nil) : V × V).1 = Wa := ⟨_, rfl⟩
    rw [hWa] at q1 q2 q3 q4 ko
    have e0 : Wa.cell? ⟨w.heap.size + 1 + 1, 0, none⟩ = some (.int .i64 0) := q2.bx.c0
    have e1 : Wa.cell? ⟨w.heap.size + 1 + 1, 1, none⟩ = some (.int .i64 0) := q2.bx.c1
    have e2 : Wa.cell? ⟨w.heap.size + 1 + 1, 2, none⟩ = some (.string ⟨#[]⟩) := q2.bx.c2
    have ef : ∀ j, Wa.frozen? ⟨w.heap.size + 1 + 1, j, none⟩ = false := q2.fz
    obtain ⟨Wb, hWb⟩ : ∃ Wb, set3 Wa (w.heap.size + 1 + 1) ((nil, nil) : V × V).2 = Wb := ⟨_, rfl⟩
    have hWb' : set3 Wa (w.heap.size + 2) ((nil, nil) : V × V).2 = Wb := hWb
    rw [hWb'] at q1 q3 q4 ko
    have g0 : Wb.cell? ⟨w.heap.size + 1 + 1 + 1, 0, none⟩ = some (.int .i64 0) := q3
    have gf : Wb.frozen? ⟨w.heap.size + 1 + 1 + 1, 0, none⟩ = false := q4
    obtain ⟨Wc, hWc⟩ : ∃ Wc, Wb.setCell ⟨w.heap.size + 1 + 1 + 1, 0, none⟩ (.int .i64 0) = Wc := ⟨_, rfl⟩
    have hWc' : Wb.setCell ⟨w.heap.size + 3, 0, none⟩ (.int .i64 0) = Wc := hWc
    rw [hWc'] at q1 ko
    unfold set3 at hWa hWb
    have HQ : Hid (Nfin WL w.heap.size ((nil, nil) : V × V) Wc) := q1
    have HKo : Hid (KeepsOthers W Wc) := ko
    clear q1 q2 q3 q4 ko hWb' hWc' RW1
    have hK' : Wc.heap[D]? = some (.deferred (some [])) := HKo.out.same D _ hK rfl
    unfold nil at hWa hWb
    gi_wp2
    all_goals
      refine ⟨by simp, .inl ⟨_, _, rfl, run_takeDeferred hK', ?_⟩⟩
      have hfin' := HQ.out
      have hD4 := hfin'.keep
      have hKD : Keep (fun g => g < WL.heap.size) Wc (Wc.putObj D (.deferred none)) := keepK_b (w := WL) (fun g q => q) Wc D _ _ hD hK' rfl rfl
      have hfz := hfin'.kept (by omega) hKD
      have o0 := hfz.b1.c0
      have o1 := hfz.b1.c1
      have o2 := hfz.b1.c2
      have p0 := hfz.b2.c0
      have p1 := hfz.b2.c1
      have p2 := hfz.b2.c2
      have r0 := hfz.c3
      refine ⟨.tuple #[.agg #[.int .i64 ((nil, nil) : V × V).1.1, .int .i64 ((nil, nil) : V × V).1.2.1, .string ((nil, nil) : V × V).1.2.2], .agg #[.int .i64 ((nil, nil) : V × V).2.1, .int .i64 ((nil, nil) : V × V).2.2.1, .string ((nil, nil) : V × V).2.2.2], .int .i64 0], by simp [results, Tryz.results22, go_sem, o0, o1, o2, p0, p1, p2, r0], ?_⟩
      have hq9 := HFin.out _ hfz.keep
      refine ⟨by first | rw [hval] | rw [← epn, hval], ?_⟩
      first | exact hq9 | (rw [hEr] at hq9; exact hq9) | (rw [hEr]; exact hq9) | (simp only [hEr] at hq9; simpa using hq9)
  case stop =>
    rintro D cd pre W hD hpre ⟨rfl, x, rfl, hfin⟩ hK
    have hval : pnx t.p 0 = x := by
      rw [epn]
      obtain ⟨r, hr'⟩ := hpre
      unfold pnx
      exact (lsF_cons (l := r) hr'.symm).1
    have hK' := hK
    gi_wp2
    all_goals
      refine ⟨by simp, .inl ⟨_, _, rfl, run_takeDeferred hK', ?_⟩⟩
      have hfin' := hfin
      have hD4 := hfin'.keep
      have hKD : Keep (fun g => g < WL.heap.size) W (W.putObj D (.deferred none)) := keepK_b (w := WL) (fun g q => q) W D _ _ hD hK' rfl rfl
      have hfz := hfin'.kept (by omega) hKD
      have o0 := hfz.b1.c0
      have o1 := hfz.b1.c1
      have o2 := hfz.b1.c2
      have p0 := hfz.b2.c0
      have p1 := hfz.b2.c1
      have p2 := hfz.b2.c2
      have r0 := hfz.c3
      refine ⟨.tuple #[.agg #[.int .i64 x.1.1, .int .i64 x.1.2.1, .string x.1.2.2], .agg #[.int .i64 x.2.1, .int .i64 x.2.2.1, .string x.2.2.2], .int .i64 0], by simp [results, Tryz.results22, go_sem, o0, o1, o2, p0, p1, p2, r0], ?_⟩
      have hq9 := HFin.out _ hfz.keep
      refine ⟨by first | rw [hval] | rw [← epn, hval], ?_⟩
      first | exact hq9 | (rw [hEr] at hq9; exact hq9) | (rw [hEr]; exact hq9) | (simp only [hEr] at hq9; simpa using hq9)
set_option maxRecDepth 100000 in
set_option maxHeartbeats 4000000 in
theorem next_at {No : Nat → Prop} {w : World} {T A b a S hb c : Nat} {t : TS} {s : H.St} (h : TT No w T A b a S hb c t s) (hc : c ≤ 700000) (k : V) (hr : Rng k) (hk : fm k = true) (hk0 : k.1 ≠ 0) (pl : Nat) (hpl : plc t.p k = (pl : Nat)) (hp0 : pl ≠ 0) :
    CallsIn Fence.wide 6 Tryz.prog 22 #[tp T, vv k] w (NxP No w T A b a S hb c t s k) := by
  obtain ⟨B0, hsz, X, R1, R2, c3, f3⟩ := next_blocks w k
  have hEw : wnx t.p k = ((pnx t.p pl).1, (pnx t.p pl).2, 0) := by
    unfold wnx
    rw [if_neg (by rw [hk]; simp), if_neg hk0, if_neg (by rw [hpl]; omega), hpl]
    simp
  have hNo : ∀ g, No g → g < w.heap.size := fun g q => by
    obtain ⟨vb, hp⟩ := h.hp
    exact hp.nos _ (.inl q)
  have ti := h.ti
  have hple : pl ≤ t.p.n + t.p.z := by have := plc_le ti (k := k) ⟨hk, hk0, hr.1, hr.2⟩; omega
  have hEr : ((if fm k = true ∧ k.1 ≠ 0 then prd t.p k else 0 : Nat)) = prd t.p k := if_pos ⟨hk, hk0⟩
  obtain ⟨W0, hW0⟩ : ∃ W0, (((w.alloc (vb k.1 k.2.1 k.2.2)).alloc (vb 0 0 ⟨#[]⟩)).alloc (vb 0 0 ⟨#[]⟩)).alloc (.cells #[.int .i64 0] 34) = W0 := ⟨_, rfl⟩
  rw [hW0] at B0 hsz X R1 R2 c3 f3
  have C1 : CallsIn Fence.wide 5 Tryz.prog 31 #[.agg #[.int .i64 k.1, .int .i64 k.2.1, .string k.2.2]] W0 fun e w' => e = .returned (.int .i64 0) ∧ w' = W0.alloc (vb k.1 k.2.1 k.2.2) := by
    have q := check_any k.1 k.2.1 k.2.2 W0
    rw [chk_ok hk] at q
    exact callsIn_wide.2 q
  have x0 : W0.cell? ⟨w.heap.size, 0, none⟩ = some (.int .i64 k.1) := X.c0
  have x1 : W0.cell? ⟨w.heap.size, 1, none⟩ = some (.int .i64 k.2.1) := X.c1
  have x2 : W0.cell? ⟨w.heap.size, 2, none⟩ = some (.string k.2.2) := X.c2
  have B1 := b1 W0 (vb k.1 k.2.1 k.2.2)
  have z1 : (W0.alloc (vb k.1 k.2.1 k.2.2)).heap.size = w.heap.size + 5 := by simp; omega
  obtain ⟨W1, hW1⟩ : ∃ W1, W0.alloc (vb k.1 k.2.1 k.2.2) = W1 := ⟨_, rfl⟩
  rw [hW1] at C1 B1 z1
  have y0 : W1.cell? ⟨w.heap.size, 0, none⟩ = some (.int .i64 k.1) := (X.below B1).c0
  have y1 : W1.cell? ⟨w.heap.size, 1, none⟩ = some (.int .i64 k.2.1) := (X.below B1).c1
  have y2 : W1.cell? ⟨w.heap.size, 2, none⟩ = some (.string k.2.2) := (X.below B1).c2
  have kb := bthen B0 B0.size B1
  have hT1 := h.news kb
  have CPl : CallsIn Fence.wide 5 Tryz.prog 52 #[.pointer (some ⟨T, 0, none⟩), .agg #[.int .i64 k.1, .int .i64 k.2.1, .string k.2.2]] W1 fun e w' => e = .returned (.int .i64 (pl : Nat)) ∧ Hid (TT (fun g => No g ∨ (w.heap.size ≤ g ∧ g < W1.heap.size)) w' T A b a S hb (c + 1) { t with pr := t.pr + ((if fm k = true ∧ k.1 ≠ 0 then prd t.p k else 0 : Nat) : Int) } s ∧ Keep (fun g => No g ∨ (w.heap.size ≤ g ∧ g < W1.heap.size)) W1 w') := by
    rw [hEr]
    have q := place_any hT1 (by omega) k hr
    rw [hpl] at q
    exact callsIn_wide.2 q
  have HW1 : Hid (W1.heap.size = w.heap.size + 5 ∧ R3 W1 (w.heap.size + 1) nil ∧ R3 W1 (w.heap.size + 2) nil ∧ W1.cell? ⟨w.heap.size + 3, 0, none⟩ = some (.int .i64 0) ∧ W1.frozen? ⟨w.heap.size + 3, 0, none⟩ = false ∧ Below w.heap.size w W1) := ⟨z1, R1.below B1, R2.below B1, by rw [World.cell?_of_block (w := W0) (B1.block (w.heap.size + 3) (by omega))]; exact c3, by rw [World.frozen?_of_block (w := W0) (B1.block (w.heap.size + 3) (by omega))]; exact f3, kb⟩
  have hk0b : (k.1 != 0) = true := by simp [hk0]
  have hp0b : ((pl : Int) == 0) = false := by simp [hp0]
  unfold vb at hW0 hW1
  clear hT1 kb B1 R1 R2 c3 f3 X h
  unfold tp vv vl
  have hmo : Tryz.prog.follows Departure.mixedOrders = true := by kernel_rfl
  unfold NxP
  rw [hEw]
  unfold vv vl
  clear hEw
  refine callsIn_of_wp_marks Tryz.func22 rfl trivial ?_ rfl
  simp only [Tryz.ntmps22, List.size_toArray, List.length_cons, List.length_nil, Nat.reduceAdd, Nat.reduceSub, Array.replicate_succ, Array.replicate_zero, List.push_toArray, List.append_toArray, List.nil_append, List.cons_append]
  gi_wp2_with (first
    | (refine ⟨trivial, ?_⟩; gi_at_call 31; refine C1.mono ?_; rintro e w1 ⟨rfl, hw1⟩; rw [hw1]; clear hw1 C1)
    | (refine ⟨trivial, ?_⟩; gi_at_call 52; refine CPl.mono ?_; rintro e W2 ⟨rfl, HT2⟩; clear CPl)
    | (refine ⟨trivial, ?_⟩; gi_at_call 53; refine (callsIn_wide.2 (behind_any _ _ _)).mono ?_; rintro e w1 ⟨rfl, hw1⟩; rw [hw1]; clear hw1))
  obtain ⟨hsz1, R1, R2, c3, f3, kb⟩ := HW1.out
  have hS2 : w.heap.size + 5 ≤ W2.heap.size := by have := HT2.out.2.size; omega
  have kp : ∀ g, w.heap.size ≤ g → g < w.heap.size + 5 → (fun g => No g ∨ (w.heap.size ≤ g ∧ g < W1.heap.size)) g := fun g q1 q2 => .inr ⟨q1, by omega⟩
  have R1' := R1.kept HT2.out.2 (kp _ (by omega) (by omega))
  have R2' := R2.kept HT2.out.2 (kp _ (by omega) (by omega))
  have e3 := HT2.out.2.block (w.heap.size + 3) (by omega) (kp _ (by omega) (by omega))
  have c3' : W2.cell? ⟨w.heap.size + 3, 0, none⟩ = some (.int .i64 0) := by rw [World.cell?_of_block (w := W1) e3]; exact c3
  have f3' : W2.frozen? ⟨w.heap.size + 3, 0, none⟩ = false := by rw [World.frozen?_of_block (w := W1) e3]; exact f3
  have hT2 : ∃ No2 : Nat → Prop, (∀ g, No g → No2 g) ∧ No2 (w.heap.size + 1) ∧ No2 (w.heap.size + 2) ∧ No2 (w.heap.size + 3) ∧ TT No2 W2 T A b a S hb (c + 1) { t with pr := t.pr + ((if fm k = true ∧ k.1 ≠ 0 then prd t.p k else 0 : Nat) : Int) } s ∧ Keep No w W2 := ⟨_, fun g q => .inl q, .inr ⟨by omega, by omega⟩, .inr ⟨by omega, by omega⟩, .inr ⟨by omega, by omega⟩, HT2.out.1, (Keep.of kb).trans (HT2.out.2.sub (fun g q => .inl q))⟩
  have htm : ∃ t', t'.p = t.p ∧ Tm W2 T A b a S t' := ⟨{ t with pr := t.pr + ((if fm k = true ∧ k.1 ≠ 0 then prd t.p k else 0 : Nat) : Int) }, rfl, HT2.out.1.tm⟩
  clear e3 kp hsz1 R1 R2 c3 f3 kb HW1 HT2
  obtain ⟨t', etp, htm'⟩ := htm
  have BL := b2 W2 (.cells #[.pointer (some ⟨T, 0, none⟩)] 26) (.cells #[.int .i64 (pl : Nat)] 3)
  have hL : ((W2.alloc (.cells #[.pointer (some ⟨T, 0, none⟩)] 26)).alloc (.cells #[.int .i64 (pl : Nat)] 3)).heap.size = W2.heap.size + 2 := by simp
  have hxt : ((W2.alloc (.cells #[.pointer (some ⟨T, 0, none⟩)] 26)).alloc (.cells #[.int .i64 (pl : Nat)] 3)).cell? ⟨W2.heap.size, 0, none⟩ = some (tp T) := by
    rw [(b1 (W2.alloc (.cells #[.pointer (some ⟨T, 0, none⟩)] 26)) (.cells #[.int .i64 (pl : Nat)] 3)).cell (by simp)]
    exact cell_of_row (MapKept.heap_alloc W2 _).1 0
  have hxp : ((W2.alloc (.cells #[.pointer (some ⟨T, 0, none⟩)] 26)).alloc (.cells #[.int .i64 (pl : Nat)] 3)).cell? ⟨W2.heap.size + 1, 0, none⟩ = some (.int .i64 (pl : Nat)) := by
    have q := (MapKept.heap_alloc (W2.alloc (.cells #[.pointer (some ⟨T, 0, none⟩)] 26)) (.cells #[.int .i64 (pl : Nat)] 3)).1
    rw [show (W2.alloc (.cells #[.pointer (some ⟨T, 0, none⟩)] 26)).heap.size = W2.heap.size + 1 by simp] at q
    exact cell_of_row q 0
  obtain ⟨WL, hWL⟩ : ∃ WL, (W2.alloc (.cells #[.pointer (some ⟨T, 0, none⟩)] 26)).alloc (.cells #[.int .i64 (pl : Nat)] 3) = WL := ⟨_, rfl⟩
  rw [hWL] at BL hL hxt hxp ⊢
  have hIt : It WL (fun g => g < WL.heap.size) W2.heap.size (W2.heap.size + 1) T A b a S t' pl := ⟨htm'.below BL, hxt, hxp, by
    have q := (htm'.below BL).pm
    have q2 := q.pt.ltb
    have q3 := q.pt.lta
    exact ⟨q.ltB, q.ltA, q2, q3, by omega, by omega⟩⟩
  have RL1 := R1'.below BL
  have RL2 := R2'.below BL
  have cL3 : WL.cell? ⟨w.heap.size + 3, 0, none⟩ = some (.int .i64 0) := by rw [World.cell?_of_block (w := W2) (BL.block (w.heap.size + 3) (by omega))]; exact c3'
  have fL3 : WL.frozen? ⟨w.heap.size + 3, 0, none⟩ = false := by rw [World.frozen?_of_block (w := W2) (BL.block (w.heap.size + 3) (by omega))]; exact f3'
  have HFin : Hid (∀ W, Keep (fun g => g < WL.heap.size ∧ g ≠ w.heap.size + 1 ∧ g ≠ w.heap.size + 2 ∧ g ≠ w.heap.size + 3) WL W → TT No W T A b a S hb (c + 1) { t with pr := t.pr + ((if fm k = true ∧ k.1 ≠ 0 then prd t.p k else 0 : Nat) : Int) } s ∧ Keep No w W) := fun W q => by
    obtain ⟨No2, n0, n1, n2, n3, tt2, kk2⟩ := hT2
    have hTL := tt2.below BL
    have hf := hTL.frame2 q.os q.tape q.output q.size (fun g hg hn => q.block g hg ⟨hg, fun e => hn (e ▸ n1), fun e => hn (e ▸ n2), fun e => hn (e ▸ n3)⟩)
    refine ⟨hf.sub (fun g hg => .inl (n0 g hg)), (kk2.trans (Keep.of BL)).trans (q.sub (fun g hg => ?_))⟩
    have := hNo g hg; exact ⟨by omega, by omega, by omega, by omega⟩
  have tip : TI t'.p := by rw [etp]; exact ti
  have epn : pnx t.p pl = pnx t'.p pl := by rw [etp]
  refine wpIn_rangeFunc_ownH (n := 6) rfl (by omega) (gf := 81) (lb := #[.pointer (some ⟨W2.heap.size, 0, none⟩), .pointer (some ⟨W2.heap.size + 1, 0, none⟩)]) rfl trivial (enters_of Tryz.func81 (by kernel_rfl) rfl)
    (iter_stops (fun g => g < WL.heap.size) W2.heap.size (W2.heap.size + 1) T A b a S t' tip pl (by rw [etp]; omega) WL hIt) keepK_t (keepK_b (fun g q => q)) (Below.refl _ _) (fun _ => rfl)
    (fun pre W => pre = [] ∧ Keep (fun g => g < WL.heap.size) WL W)
    (fun cd pre W => cd = .ret ∧ ∃ x, pre = [x] ∧ Nfin WL w.heap.size x W)
    (ownFrom_of fun s W W' hs hk => ⟨hs.1, hs.2.trans hk⟩) (fun cd => ownFrom_of fun s W W' hs hk => ⟨hs.1, hs.2.choose, hs.2.choose_spec.1, hs.2.choose_spec.2.kept (by omega) hk⟩) ⟨rfl, Keep.refl _ _⟩
    (fun x a' W => ∃ Bk, WL.heap.size ≤ Bk ∧ Box2 W Bk x ∧ a' = { tmps := #[.pointer (some ⟨T, 0, none⟩), .agg #[.int .i64 k.1, .int .i64 k.2.1, .string k.2.2], undef, .pointer (some ⟨w.heap.size, 0, none⟩), .pointer (some ⟨w.heap.size + 1, 0, none⟩), .pointer (some ⟨w.heap.size + 1 + 1, 0, none⟩), .pointer (some ⟨w.heap.size + 1 + 1 + 1, 0, none⟩), .int .i64 0, .int .i64 (pl : Nat), .pointer (some ⟨Bk, 0, none⟩), .pointer (some ⟨Bk + 1, 0, none⟩), .agg #[.int .i64 k.1, .int .i64 k.2.1, .string k.2.2], .int .i64 0, .int .i64 0, .bool false, undef, undef, .pointer (some ⟨w.heap.size, 0, none⟩), .int .i64 k.1, .bool true, .pointer (some ⟨T, 0, none⟩), .agg #[.int .i64 k.1, .int .i64 k.2.1, .string k.2.2], .int .i64 (pl : Nat), .int .i64 (pl : Nat), .bool false, undef, undef, .pointer (some ⟨T, 0, none⟩), .int .i64 (pl : Nat), .func (.func 81) #[] #[.pointer (some ⟨W2.heap.size, 0, none⟩), .pointer (some ⟨W2.heap.size + 1, 0, none⟩)], .agg #[.int .i64 x.1.1, .int .i64 x.1.2.1, .string x.1.2.2], .agg #[.int .i64 x.2.1, .int .i64 x.2.2.1, .string x.2.2.2], undef, undef, undef, undef], defers := [] })
    (fun x a' => fun _ A' B' row hs hg hr => ⟨hs.choose, hs.choose_spec.1, hs.choose_spec.2.1.own hg (fun r e => (hr r e).2), hs.choose_spec.2.2⟩) ?assign ?body ?done ?stop
  case assign =>
    rintro l pre x W K ⟨hpre, hkw⟩ hK
    have hb2 := Box2.made W x
    have kk : Keep (fun g => g < WL.heap.size) W ((W.alloc (.cells #[.int .i64 x.1.1, .int .i64 x.1.2.1, .string x.1.2.2] 31)).alloc (.cells #[.int .i64 x.2.1, .int .i64 x.2.2.1, .string x.2.2.2] 31)) := ((Keep.refl _ W).alloc _).alloc _
    have ko := ((KeepsOthers.alloc W (.cells #[.int .i64 x.1.1, .int .i64 x.1.2.1, .string x.1.2.2] 31)).trans (KeepsOthers.alloc _ (.cells #[.int .i64 x.2.1, .int .i64 x.2.2.1, .string x.2.2.2] 31))).from WL.heap.size
    have hks := hkw.size
    unfold encP
    gi_wp2
    exact hK _ _ ko kk ⟨hpre, hkw.trans kk⟩ ⟨W.heap.size, hks, hb2, by simp⟩
  case body =>
    rintro l pre x a' W hl _ ⟨hpre, hkw⟩ ⟨Bk, hBk, hbx, rfl⟩ _
    obtain ⟨q1, q2, q3, q4⟩ := nfin_of (WL := WL) (N := w.heap.size) hkw (RL1.kept hkw (by show w.heap.size + 1 < _; omega)) (RL2.kept hkw (by show w.heap.size + 2 < _; omega)) (by rw [World.cell?_of_block (w := WL) (hkw.block (w.heap.size + 3) (by omega) (by show w.heap.size + 3 < _; omega))]; exact cL3) (by rw [World.frozen?_of_block (w := WL) (hkw.block (w.heap.size + 3) (by omega) (by show w.heap.size + 3 < _; omega))]; exact fL3) x
    have RW1 := RL1.kept hkw (by show w.heap.size + 1 < _; omega)
    have d0 : W.cell? ⟨w.heap.size + 1, 0, none⟩ = some (.int .i64 0) := RW1.bx.c0
    have d1 : W.cell? ⟨w.heap.size + 1, 1, none⟩ = some (.int .i64 0) := RW1.bx.c1
    have d2 : W.cell? ⟨w.heap.size + 1, 2, none⟩ = some (.string ⟨#[]⟩) := RW1.bx.c2
    have df := RW1.fz
    have ko : KeepsOthers W ((set3 (set3 W (w.heap.size + 1) x.1) (w.heap.size + 2) x.2).setCell ⟨w.heap.size + 3, 0, none⟩ (.int .i64 0)) := (((((((KeepsOthers.setCell _ _ _).trans (KeepsOthers.setCell _ _ _)).trans (KeepsOthers.setCell _ _ _)).trans (KeepsOthers.setCell _ _ _)).trans (KeepsOthers.setCell _ _ _)).trans (KeepsOthers.setCell _ _ _)).trans (KeepsOthers.setCell _ _ _))
    have hbxa : Box2 (set3 W (w.heap.size + 1) x.1) Bk x := hbx.kept (Ks := fun g => g ≠ w.heap.size + 1) ((Keep.refl _ W).set3 (fun q => q rfl) x.1) (by show Bk ≠ _; omega) (by show Bk + 1 ≠ _; omega)
    have n0 := hbx.k0
    have n1 := hbx.k1
    have n2 := hbx.k2
    have n3 := hbx.v0
    have n4 := hbx.v1
    have n5 := hbx.v2
    obtain ⟨Wa, hWa⟩ : ∃ Wa, set3 W (w.heap.size + 1) x.1 = Wa := ⟨_, rfl⟩
    rw [hWa] at q1 q2 q3 q4 ko hbxa
    have e0 : Wa.cell? ⟨w.heap.size + 1 + 1, 0, none⟩ = some (.int .i64 0) := q2.bx.c0
    have e1 : Wa.cell? ⟨w.heap.size + 1 + 1, 1, none⟩ = some (.int .i64 0) := q2.bx.c1
    have e2 : Wa.cell? ⟨w.heap.size + 1 + 1, 2, none⟩ = some (.string ⟨#[]⟩) := q2.bx.c2
    have ef : ∀ j, Wa.frozen? ⟨w.heap.size + 1 + 1, j, none⟩ = false := q2.fz
    obtain ⟨Wb, hWb⟩ : ∃ Wb, set3 Wa (w.heap.size + 1 + 1) x.2 = Wb := ⟨_, rfl⟩
    have hWb' : set3 Wa (w.heap.size + 2) x.2 = Wb := hWb
    rw [hWb'] at q1 q3 q4 ko
    have g0 : Wb.cell? ⟨w.heap.size + 1 + 1 + 1, 0, none⟩ = some (.int .i64 0) := q3
    have gf : Wb.frozen? ⟨w.heap.size + 1 + 1 + 1, 0, none⟩ = false := q4
    obtain ⟨Wc, hWc⟩ : ∃ Wc, Wb.setCell ⟨w.heap.size + 1 + 1 + 1, 0, none⟩ (.int .i64 0) = Wc := ⟨_, rfl⟩
    have hWc' : Wb.setCell ⟨w.heap.size + 3, 0, none⟩ (.int .i64 0) = Wc := hWc
    rw [hWc'] at q1 ko
    unfold set3 at hWa hWb
    have HQ : Hid (Nfin WL w.heap.size x Wc) := q1
    have HKo : Hid (KeepsOthers W Wc) := ko
    have m3 := hbxa.v0
    have m4 := hbxa.v1
    have m5 := hbxa.v2
    clear q1 q2 q3 q4 ko hWb' hWc' RW1
    gi_wp2
    gi_region_with_o fail
    all_goals
      gi_wp2
      first | exact ⟨HKo.out.from _, rfl, x, by rw [hpre]; rfl, HQ.out⟩ | exact ⟨(HKo.out.trans (KeepsOthers.drew _)).from _, rfl, x, by rw [hpre]; rfl, HQ.out.drew⟩
  case done =>
    rintro D xs W hD hxs ⟨hpre, hkw⟩ hK
    have hval : pnx t.p pl = ((nil, nil) : V × V) := by
      rw [epn]; unfold pnx; rw [hpre] at hxs; exact lsF_nil hxs.symm
    obtain ⟨q1, q2, q3, q4⟩ := nfin_of (WL := WL) (N := w.heap.size) hkw (RL1.kept hkw (by show w.heap.size + 1 < _; omega)) (RL2.kept hkw (by show w.heap.size + 2 < _; omega)) (by rw [World.cell?_of_block (w := WL) (hkw.block (w.heap.size + 3) (by omega) (by show w.heap.size + 3 < _; omega))]; exact cL3) (by rw [World.frozen?_of_block (w := WL) (hkw.block (w.heap.size + 3) (by omega) (by show w.heap.size + 3 < _; omega))]; exact fL3) ((nil, nil) : V × V)
    have RW1 := RL1.kept hkw (by show w.heap.size + 1 < _; omega)
    have d0 : W.cell? ⟨w.heap.size + 1, 0, none⟩ = some (.int .i64 0) := RW1.bx.c0
    have d1 : W.cell? ⟨w.heap.size + 1, 1, none⟩ = some (.int .i64 0) := RW1.bx.c1
    have d2 : W.cell? ⟨w.heap.size + 1, 2, none⟩ = some (.string ⟨#[]⟩) := RW1.bx.c2
    have df := RW1.fz
    have ko : KeepsOthers W ((set3 (set3 W (w.heap.size + 1) ((nil, nil) : V × V).1) (w.heap.size + 2) ((nil, nil) : V × V).2).setCell ⟨w.heap.size + 3, 0, none⟩ (.int .i64 0)) := (((((((KeepsOthers.setCell _ _ _).trans (KeepsOthers.setCell _ _ _)).trans (KeepsOthers.setCell _ _ _)).trans (KeepsOthers.setCell _ _ _)).trans (KeepsOthers.setCell _ _ _)).trans (KeepsOthers.setCell _ _ _)).trans (KeepsOthers.setCell _ _ _))
    obtain ⟨Wa, hWa⟩ : ∃ Wa, set3 W (w.heap.size + 1) ((nil, nil) : V × V).1 = Wa := ⟨_, rfl⟩
    rw [hWa] at q1 q2 q3 q4 ko
    have e0 : Wa.cell? ⟨w.heap.size + 1 + 1, 0, none⟩ = some (.int .i64 0) := q2.bx.c0
    have e1 : Wa.cell? ⟨w.heap.size + 1 + 1, 1, none⟩ = some (.int .i64 0) := q2.bx.c1
    have e2 : Wa.cell? ⟨w.heap.size + 1 + 1, 2, none⟩ = some (.string ⟨#[]⟩) := q2.bx.c2
    have ef : ∀ j, Wa.frozen? ⟨w.heap.size + 1 + 1, j, none⟩ = false := q2.fz
    obtain ⟨Wb, hWb⟩ : ∃ Wb, set3 Wa (w.heap.size + 1 + 1) ((nil, nil) : V × V).2 = Wb := ⟨_, rfl⟩
    have hWb' : set3 Wa (w.heap.size + 2) ((nil, nil) : V × V).2 = Wb := hWb
    rw [hWb'] at q1 q3 q4 ko
    have g0 : Wb.cell? ⟨w.heap.size + 1 + 1 + 1, 0, none⟩ = some (.int .i64 0) := q3
    have gf : Wb.frozen? ⟨w.heap.size + 1 + 1 + 1, 0, none⟩ = false := q4
    obtain ⟨Wc, hWc⟩ : ∃ Wc, Wb.setCell ⟨w.heap.size + 1 + 1 + 1, 0, none⟩ (.int .i64 0) = Wc := ⟨_, rfl⟩
    have hWc' : Wb.setCell ⟨w.heap.size + 3, 0, none⟩ (.int .i64 0) = Wc := hWc
    rw [hWc'] at q1 ko
    unfold set3 at hWa hWb
    have HQ : Hid (Nfin WL w.heap.size ((nil, nil) : V × V) Wc) := q1
    have HKo : Hid (KeepsOthers W Wc) := ko
    clear q1 q2 q3 q4 ko hWb' hWc' RW1
    have hK' : Wc.heap[D]? = some (.deferred (some [])) := HKo.out.same D _ hK rfl
    unfold nil at hWa hWb
    gi_wp2
    all_goals
      refine ⟨by simp, .inl ⟨_, _, rfl, run_takeDeferred hK', ?_⟩⟩
      have hfin' := HQ.out
      have hD4 := hfin'.keep
      have hKD : Keep (fun g => g < WL.heap.size) Wc (Wc.putObj D (.deferred none)) := keepK_b (w := WL) (fun g q => q) Wc D _ _ hD hK' rfl rfl
      have hfz := hfin'.kept (by omega) hKD
      have o0 := hfz.b1.c0
      have o1 := hfz.b1.c1
      have o2 := hfz.b1.c2
      have p0 := hfz.b2.c0
      have p1 := hfz.b2.c1
      have p2 := hfz.b2.c2
      have r0 := hfz.c3
      refine ⟨.tuple #[.agg #[.int .i64 ((nil, nil) : V × V).1.1, .int .i64 ((nil, nil) : V × V).1.2.1, .string ((nil, nil) : V × V).1.2.2], .agg #[.int .i64 ((nil, nil) : V × V).2.1, .int .i64 ((nil, nil) : V × V).2.2.1, .string ((nil, nil) : V × V).2.2.2], .int .i64 0], by simp [results, Tryz.results22, go_sem, o0, o1, o2, p0, p1, p2, r0], ?_⟩
      have hq9 := HFin.out _ hfz.keep
      refine ⟨by first | rw [hval] | rw [← epn, hval], ?_⟩
      first | exact hq9 | (rw [hEr] at hq9; exact hq9) | (rw [hEr]; exact hq9) | (simp only [hEr] at hq9; simpa using hq9)
  case stop =>
    rintro D cd pre W hD hpre ⟨rfl, x, rfl, hfin⟩ hK
    have hval : pnx t.p pl = x := by
      rw [epn]
      obtain ⟨r, hr'⟩ := hpre
      unfold pnx
      exact (lsF_cons (l := r) hr'.symm).1
    have hK' := hK
    gi_wp2
    all_goals
      refine ⟨by simp, .inl ⟨_, _, rfl, run_takeDeferred hK', ?_⟩⟩
      have hfin' := hfin
      have hD4 := hfin'.keep
      have hKD : Keep (fun g => g < WL.heap.size) W (W.putObj D (.deferred none)) := keepK_b (w := WL) (fun g q => q) W D _ _ hD hK' rfl rfl
      have hfz := hfin'.kept (by omega) hKD
      have o0 := hfz.b1.c0
      have o1 := hfz.b1.c1
      have o2 := hfz.b1.c2
      have p0 := hfz.b2.c0
      have p1 := hfz.b2.c1
      have p2 := hfz.b2.c2
      have r0 := hfz.c3
      refine ⟨.tuple #[.agg #[.int .i64 x.1.1, .int .i64 x.1.2.1, .string x.1.2.2], .agg #[.int .i64 x.2.1, .int .i64 x.2.2.1, .string x.2.2.2], .int .i64 0], by simp [results, Tryz.results22, go_sem, o0, o1, o2, p0, p1, p2, r0], ?_⟩
      have hq9 := HFin.out _ hfz.keep
      refine ⟨by first | rw [hval] | rw [← epn, hval], ?_⟩
      first | exact hq9 | (rw [hEr] at hq9; exact hq9) | (rw [hEr]; exact hq9) | (simp only [hEr] at hq9; simpa using hq9)
end Go.Proofs.YtoomlihccniooaaGreat

/- The walk of Next, on: what it refuses; all of it together. -/
namespace Go.Proofs.YtoomlihccniooaaGreat
open Go.RowKit

theorem three_store {W : World} {N : Nat} (r1 : R3 W (N + 1) nil) (r2 : R3 W (N + 2) nil) (c3 : W.cell? ⟨N + 3, 0, none⟩ = some (.int .i64 0)) (f3 : W.frozen? ⟨N + 3, 0, none⟩ = false) (E : Int) :
    Bx ((set3 (set3 W (N + 1) nil) (N + 2) nil).setCell ⟨N + 3, 0, none⟩ (.int .i64 E)) (N + 1) nil ∧ Bx ((set3 (set3 W (N + 1) nil) (N + 2) nil).setCell ⟨N + 3, 0, none⟩ (.int .i64 E)) (N + 2) nil ∧ ((set3 (set3 W (N + 1) nil) (N + 2) nil).setCell ⟨N + 3, 0, none⟩ (.int .i64 E)).cell? ⟨N + 3, 0, none⟩ = some (.int .i64 E) ∧
    Keep (fun g => g ≠ N + 1 ∧ g ≠ N + 2 ∧ g ≠ N + 3) W ((set3 (set3 W (N + 1) nil) (N + 2) nil).setCell ⟨N + 3, 0, none⟩ (.int .i64 E)) ∧ R3 (set3 W (N + 1) nil) (N + 2) nil ∧ (set3 (set3 W (N + 1) nil) (N + 2) nil).cell? ⟨N + 3, 0, none⟩ = some (.int .i64 0) ∧ (set3 (set3 W (N + 1) nil) (N + 2) nil).frozen? ⟨N + 3, 0, none⟩ = false := by
  have k1 : Keep (fun g => g ≠ N + 1) W (set3 W (N + 1) nil) := (Keep.refl _ W).set3 (fun q => q rfl) nil
  have s1 := r1.set nil
  obtain ⟨Wa, hWa⟩ : ∃ Wa, set3 W (N + 1) nil = Wa := ⟨_, rfl⟩
  rw [hWa] at k1 s1 ⊢
  have a2 := r2.kept k1 (by show N + 2 ≠ N + 1; omega)
  have k2 : Keep (fun g => g ≠ N + 2) Wa (set3 Wa (N + 2) nil) := (Keep.refl _ _).set3 (fun q => q rfl) nil
  have a3 := a2.set nil
  obtain ⟨Wb, hWb⟩ : ∃ Wb, set3 Wa (N + 2) nil = Wb := ⟨_, rfl⟩
  rw [hWb] at k2 a3 ⊢
  have a1 := s1.kept k2 (by show N + 1 ≠ N + 2; omega)
  have e1 := k1.block (N + 3) (World.block_lt_of_cell? W _ c3) (by show N + 3 ≠ N + 1; omega)
  have c4 : Wa.cell? ⟨N + 3, 0, none⟩ = some (.int .i64 0) := by rw [World.cell?_of_block (w := W) e1]; exact c3
  have e2 := k2.block (N + 3) (World.block_lt_of_cell? _ _ c4) (by show N + 3 ≠ N + 2; omega)
  have c5 : Wb.cell? ⟨N + 3, 0, none⟩ = some (.int .i64 0) := by rw [World.cell?_of_block (w := Wa) e2]; exact c4
  have f5 : Wb.frozen? ⟨N + 3, 0, none⟩ = false := by rw [World.frozen?_of_block (w := Wa) e2, World.frozen?_of_block (w := W) e1]; exact f3
  have k3 : Keep (fun g => g ≠ N + 3) Wb (Wb.setCell ⟨N + 3, 0, none⟩ (.int .i64 E)) := (Keep.refl _ _).set (p := ⟨N + 3, 0, none⟩) (fun q => q rfl) _
  refine ⟨(a1.kept k3 (by show N + 1 ≠ N + 3; omega)).bx, (a3.kept k3 (by show N + 2 ≠ N + 3; omega)).bx, World.cell?_setCell_same _ _ _ c5, ?_, a2, c5, f5⟩
  exact ((k1.sub (fun g q => q.1)).trans (k2.sub (fun g q => q.2.1))).trans (k3.sub (fun g q => q.2.2))
set_option maxRecDepth 20000 in
set_option maxHeartbeats 2000000 in
theorem next_form {No : Nat → Prop} {w : World} {T A b a S hb c : Nat} {t : TS} {s : H.St} (h : TT No w T A b a S hb c t s) (k : V) (hk : fm k = false) :
    Calls Tryz.prog 22 #[tp T, vv k] w (NxP No w T A b a S hb c t s k) := by
  obtain ⟨B0, hsz, X, R1, R2, c3, f3⟩ := next_blocks w k
  obtain ⟨W0, hW0⟩ : ∃ W0, (((w.alloc (vb k.1 k.2.1 k.2.2)).alloc (vb 0 0 ⟨#[]⟩)).alloc (vb 0 0 ⟨#[]⟩)).alloc (.cells #[.int .i64 0] 34) = W0 := ⟨_, rfl⟩
  rw [hW0] at B0 hsz X R1 R2 c3 f3
  have C1 := check_any k.1 k.2.1 k.2.2 W0
  rw [chk_of] at C1
  have x0 : W0.cell? ⟨w.heap.size, 0, none⟩ = some (.int .i64 k.1) := X.c0
  have x1 : W0.cell? ⟨w.heap.size, 1, none⟩ = some (.int .i64 k.2.1) := X.c1
  have x2 : W0.cell? ⟨w.heap.size, 2, none⟩ = some (.string k.2.2) := X.c2
  have B1 := b1 W0 (vb k.1 k.2.1 k.2.2)
  have z1 : (W0.alloc (vb k.1 k.2.1 k.2.2)).heap.size = w.heap.size + 5 := by simp; omega
  obtain ⟨W1, hW1⟩ : ∃ W1, W0.alloc (vb k.1 k.2.1 k.2.2) = W1 := ⟨_, rfl⟩
  rw [hW1] at C1 B1 z1
  have kb := bthen B0 B0.size B1
  have hNo : ∀ g, No g → g < w.heap.size := fun g q => by
    obtain ⟨vb, hp⟩ := h.hp
    exact hp.nos _ (.inl q)
  have R1' := R1.below B1
  have R2' := R2.below B1
  have c3' : W1.cell? ⟨w.heap.size + 3, 0, none⟩ = some (.int .i64 0) := by rw [World.cell?_of_block (w := W0) (B1.block (w.heap.size + 3) (by omega))]; exact c3
  have f3' : W1.frozen? ⟨w.heap.size + 3, 0, none⟩ = false := by rw [World.frozen?_of_block (w := W0) (B1.block (w.heap.size + 3) (by omega))]; exact f3
  have hT1 := h.news kb
  have hEw : wnx t.p k = (nil, nil, 2) := by unfold wnx; rw [if_pos hk]
  have hEr : ((if fm k = true ∧ k.1 ≠ 0 then prd t.p k else 0 : Nat)) = 0 := if_neg (fun q => by rw [hk] at q; cases q.1)
  rw [if_neg (by rw [hk]; simp)] at C1
  have R1W := R1'
  have R2W := R2'
  have c3W := c3'
  have f3W := f3'
  have HT : Hid (TT (fun g => No g ∨ (w.heap.size ≤ g ∧ g < W1.heap.size)) W1 T A b a S hb c t s ∧ Keep No w W1) := ⟨hT1, Keep.of kb⟩
  have HZ : Hid (W1.heap.size = w.heap.size + 5) := z1
  clear z1
  obtain ⟨q1, q2, q3, q4, q5, q6, q7⟩ := three_store (W := W1) (N := w.heap.size) R1W R2W c3W f3W 2
  have d0 : W1.cell? ⟨w.heap.size + 1, 0, none⟩ = some (.int .i64 0) := R1W.bx.c0
  have d1 : W1.cell? ⟨w.heap.size + 1, 1, none⟩ = some (.int .i64 0) := R1W.bx.c1
  have d2 : W1.cell? ⟨w.heap.size + 1, 2, none⟩ = some (.string ⟨#[]⟩) := R1W.bx.c2
  have df := R1W.fz
  obtain ⟨Wa, hWa⟩ : ∃ Wa, set3 W1 (w.heap.size + 1) nil = Wa := ⟨_, rfl⟩
  rw [hWa] at q1 q2 q3 q4 q5 q6 q7
  have e0 : Wa.cell? ⟨w.heap.size + 1 + 1, 0, none⟩ = some (.int .i64 0) := q5.bx.c0
  have e1 : Wa.cell? ⟨w.heap.size + 1 + 1, 1, none⟩ = some (.int .i64 0) := q5.bx.c1
  have e2 : Wa.cell? ⟨w.heap.size + 1 + 1, 2, none⟩ = some (.string ⟨#[]⟩) := q5.bx.c2
  have ef : ∀ j, Wa.frozen? ⟨w.heap.size + 1 + 1, j, none⟩ = false := q5.fz
  obtain ⟨Wb, hWb⟩ : ∃ Wb, set3 Wa (w.heap.size + 1 + 1) nil = Wb := ⟨_, rfl⟩
  have hWb' : set3 Wa (w.heap.size + 2) nil = Wb := hWb
  rw [hWb'] at q1 q2 q3 q4 q6 q7
  have g0 : Wb.cell? ⟨w.heap.size + 1 + 1 + 1, 0, none⟩ = some (.int .i64 0) := q6
  have gf : Wb.frozen? ⟨w.heap.size + 1 + 1 + 1, 0, none⟩ = false := q7
  obtain ⟨Wc, hWc⟩ : ∃ Wc, Wb.setCell ⟨w.heap.size + 1 + 1 + 1, 0, none⟩ (.int .i64 2) = Wc := ⟨_, rfl⟩
  have hWc' : Wb.setCell ⟨w.heap.size + 3, 0, none⟩ (.int .i64 2) = Wc := hWc
  rw [hWc'] at q1 q2 q3 q4
  unfold set3 at hWa hWb
  unfold nil at hWa hWb
  have HQ : Hid _ := And.intro q1 (And.intro q2 (And.intro q3 q4))
  clear q1 q2 q3 q4 q5 q6 q7 hWb' hWc'
  unfold vb at hW0 hW1
  unfold NxP
  rw [hEw, hEr]
  unfold tp vv vl at *
  go_enter Tryz.func22, Tryz.ntmps22
  go_wp2_with fail
  refine C1.mono ?_; rintro e w1 ⟨rfl, hw1⟩; rw [hw1]; clear hw1 C1
  go_wp2_with fail
  have o0 := HQ.out.1.c0
  have o1 := HQ.out.1.c1
  have o2 := HQ.out.1.c2
  have p0 := HQ.out.2.1.c0
  have p1 := HQ.out.2.1.c1
  have p2 := HQ.out.2.1.c2
  have r0 := HQ.out.2.2.1
  unfold nil at o0 o1 o2 p0 p1 p2
  refine bodyPost_ret (v := .tuple #[.agg #[.int .i64 0, .int .i64 0, .string ⟨#[]⟩], .agg #[.int .i64 0, .int .i64 0, .string ⟨#[]⟩], .int .i64 2]) (by simp [results, Tryz.results22, go_sem, o0, o1, o2, p0, p1, p2, r0]) rfl ⟨rfl, ?_⟩
  have z1 := HZ.out
  have kq := HQ.out.2.2.2
  have hf := HT.out.1.frame2 kq.os kq.tape kq.output kq.size (fun g hg hn => kq.block g hg ⟨fun e => hn (.inr ⟨by omega, by omega⟩), fun e => hn (.inr ⟨by omega, by omega⟩), fun e => hn (.inr ⟨by omega, by omega⟩)⟩)
  have e0 : ({ t with pr := t.pr + ((0 : Nat) : Int) } : TS) = t := by simp
  rw [e0]
  refine ⟨(hf.sub (fun g hg => .inl (.inl hg))).more (by omega), HT.out.2.trans (kq.sub (fun g hg => ?_))⟩
  have := hNo g hg
  exact ⟨by omega, by omega, by omega⟩
set_option maxRecDepth 20000 in
set_option maxHeartbeats 2000000 in
theorem next_key {No : Nat → Prop} {w : World} {T A b a S hb c : Nat} {t : TS} {s : H.St} (h : TT No w T A b a S hb c t s) (k : V) (hc : c ≤ 700000) (hr : Rng k) (hk : fm k = true) (hk0 : k.1 ≠ 0) (hp : plc t.p k = 0) :
    Calls Tryz.prog 22 #[tp T, vv k] w (NxP No w T A b a S hb c t s k) := by
  obtain ⟨B0, hsz, X, R1, R2, c3, f3⟩ := next_blocks w k
  obtain ⟨W0, hW0⟩ : ∃ W0, (((w.alloc (vb k.1 k.2.1 k.2.2)).alloc (vb 0 0 ⟨#[]⟩)).alloc (vb 0 0 ⟨#[]⟩)).alloc (.cells #[.int .i64 0] 34) = W0 := ⟨_, rfl⟩
  rw [hW0] at B0 hsz X R1 R2 c3 f3
  have C1 := check_any k.1 k.2.1 k.2.2 W0
  rw [chk_of] at C1
  have x0 : W0.cell? ⟨w.heap.size, 0, none⟩ = some (.int .i64 k.1) := X.c0
  have x1 : W0.cell? ⟨w.heap.size, 1, none⟩ = some (.int .i64 k.2.1) := X.c1
  have x2 : W0.cell? ⟨w.heap.size, 2, none⟩ = some (.string k.2.2) := X.c2
  have B1 := b1 W0 (vb k.1 k.2.1 k.2.2)
  have z1 : (W0.alloc (vb k.1 k.2.1 k.2.2)).heap.size = w.heap.size + 5 := by simp; omega
  obtain ⟨W1, hW1⟩ : ∃ W1, W0.alloc (vb k.1 k.2.1 k.2.2) = W1 := ⟨_, rfl⟩
  rw [hW1] at C1 B1 z1
  have kb := bthen B0 B0.size B1
  have hNo : ∀ g, No g → g < w.heap.size := fun g q => by
    obtain ⟨vb, hp⟩ := h.hp
    exact hp.nos _ (.inl q)
  have R1' := R1.below B1
  have R2' := R2.below B1
  have c3' : W1.cell? ⟨w.heap.size + 3, 0, none⟩ = some (.int .i64 0) := by rw [World.cell?_of_block (w := W0) (B1.block (w.heap.size + 3) (by omega))]; exact c3
  have f3' : W1.frozen? ⟨w.heap.size + 3, 0, none⟩ = false := by rw [World.frozen?_of_block (w := W0) (B1.block (w.heap.size + 3) (by omega))]; exact f3
  have hT1 := h.news kb
  have hEw : wnx t.p k = (nil, nil, 9) := by unfold wnx; rw [if_neg (by rw [hk]; simp), if_neg hk0, if_pos hp]
  have hEr : ((if fm k = true ∧ k.1 ≠ 0 then prd t.p k else 0 : Nat)) = prd t.p k := if_pos ⟨hk, hk0⟩
  rw [if_pos hk] at C1
  have hk0b : (k.1 != 0) = true := by simp [hk0]
  have CPl := place_any hT1 (by omega) k hr
  rw [hp] at CPl
  have y0 : W1.cell? ⟨w.heap.size, 0, none⟩ = some (.int .i64 k.1) := (X.below B1).c0
  have y1 : W1.cell? ⟨w.heap.size, 1, none⟩ = some (.int .i64 k.2.1) := (X.below B1).c1
  have y2 : W1.cell? ⟨w.heap.size, 2, none⟩ = some (.string k.2.2) := (X.below B1).c2
  have HZ : Hid (W1.heap.size = w.heap.size + 5) := z1
  have HW1 : Hid (R3 W1 (w.heap.size + 1) nil ∧ R3 W1 (w.heap.size + 2) nil ∧ W1.cell? ⟨w.heap.size + 3, 0, none⟩ = some (.int .i64 0) ∧ W1.frozen? ⟨w.heap.size + 3, 0, none⟩ = false ∧ Below w.heap.size w W1) := ⟨R1', R2', c3', f3', kb⟩
  clear z1 hT1 R1' R2' c3' f3' kb B1 R1 R2 c3 f3 X h hsz
  unfold vb at hW0 hW1
  unfold NxP
  rw [hEw, hEr]
  unfold tp vv vl at *
  go_enter Tryz.func22, Tryz.ntmps22
  go_wp2_with fail
  refine C1.mono ?_; rintro e w1 ⟨rfl, hw1⟩; rw [hw1]; clear hw1 C1
  go_wp2_with fail
  refine CPl.mono ?_; rintro e W2 ⟨rfl, tt2, kk2⟩
  have z1 := HZ.out
  obtain ⟨R1, R2, c3, f3, kb⟩ := HW1.out
  have kp : ∀ g, w.heap.size ≤ g → g < w.heap.size + 5 → (fun g => No g ∨ (w.heap.size ≤ g ∧ g < W1.heap.size)) g := fun g q1 q2 => .inr ⟨q1, by omega⟩
  have R1W := R1.kept kk2 (kp _ (by omega) (by omega))
  have R2W := R2.kept kk2 (kp _ (by omega) (by omega))
  have e3 := kk2.block (w.heap.size + 3) (by omega) (kp _ (by omega) (by omega))
  have c3W : W2.cell? ⟨w.heap.size + 3, 0, none⟩ = some (.int .i64 0) := by rw [World.cell?_of_block (w := W1) e3]; exact c3
  have f3W : W2.frozen? ⟨w.heap.size + 3, 0, none⟩ = false := by rw [World.frozen?_of_block (w := W1) e3]; exact f3
  have HT : Hid (TT (fun g => No g ∨ (w.heap.size ≤ g ∧ g < W1.heap.size)) W2 T A b a S hb (c + 1) { t with pr := t.pr + (prd t.p k : Nat) } s ∧ Keep No w W2) := ⟨tt2, (Keep.of kb).trans (kk2.sub (fun g q => .inl q))⟩
  obtain ⟨q1, q2, q3, q4, q5, q6, q7⟩ := three_store (W := W2) (N := w.heap.size) R1W R2W c3W f3W 9
  have d0 : W2.cell? ⟨w.heap.size + 1, 0, none⟩ = some (.int .i64 0) := R1W.bx.c0
  have d1 : W2.cell? ⟨w.heap.size + 1, 1, none⟩ = some (.int .i64 0) := R1W.bx.c1
  have d2 : W2.cell? ⟨w.heap.size + 1, 2, none⟩ = some (.string ⟨#[]⟩) := R1W.bx.c2
  have df := R1W.fz
  obtain ⟨Wa, hWa⟩ : ∃ Wa, set3 W2 (w.heap.size + 1) nil = Wa := ⟨_, rfl⟩
  rw [hWa] at q1 q2 q3 q4 q5 q6 q7
  have e0 : Wa.cell? ⟨w.heap.size + 1 + 1, 0, none⟩ = some (.int .i64 0) := q5.bx.c0
  have e1 : Wa.cell? ⟨w.heap.size + 1 + 1, 1, none⟩ = some (.int .i64 0) := q5.bx.c1
  have e2 : Wa.cell? ⟨w.heap.size + 1 + 1, 2, none⟩ = some (.string ⟨#[]⟩) := q5.bx.c2
  have ef : ∀ j, Wa.frozen? ⟨w.heap.size + 1 + 1, j, none⟩ = false := q5.fz
  obtain ⟨Wb, hWb⟩ : ∃ Wb, set3 Wa (w.heap.size + 1 + 1) nil = Wb := ⟨_, rfl⟩
  have hWb' : set3 Wa (w.heap.size + 2) nil = Wb := hWb
  rw [hWb'] at q1 q2 q3 q4 q6 q7
  have g0 : Wb.cell? ⟨w.heap.size + 1 + 1 + 1, 0, none⟩ = some (.int .i64 0) := q6
  have gf : Wb.frozen? ⟨w.heap.size + 1 + 1 + 1, 0, none⟩ = false := q7
  obtain ⟨Wc, hWc⟩ : ∃ Wc, Wb.setCell ⟨w.heap.size + 1 + 1 + 1, 0, none⟩ (.int .i64 9) = Wc := ⟨_, rfl⟩
  have hWc' : Wb.setCell ⟨w.heap.size + 3, 0, none⟩ (.int .i64 9) = Wc := hWc
  rw [hWc'] at q1 q2 q3 q4
  unfold set3 at hWa hWb
  unfold nil at hWa hWb
  have HQ : Hid _ := And.intro q1 (And.intro q2 (And.intro q3 q4))
  clear q1 q2 q3 q4 q5 q6 q7 hWb' hWc'
  clear CPl tt2 kk2 R1 R2 c3 f3 kb kp e3 z1
  go_wp2_with fail
  have o0 := HQ.out.1.c0
  have o1 := HQ.out.1.c1
  have o2 := HQ.out.1.c2
  have p0 := HQ.out.2.1.c0
  have p1 := HQ.out.2.1.c1
  have p2 := HQ.out.2.1.c2
  have r0 := HQ.out.2.2.1
  unfold nil at o0 o1 o2 p0 p1 p2
  refine bodyPost_ret (v := .tuple #[.agg #[.int .i64 0, .int .i64 0, .string ⟨#[]⟩], .agg #[.int .i64 0, .int .i64 0, .string ⟨#[]⟩], .int .i64 9]) (by simp [results, Tryz.results22, go_sem, o0, o1, o2, p0, p1, p2, r0]) rfl ⟨rfl, ?_⟩
  have z1 := HZ.out
  have kq := HQ.out.2.2.2
  have hf := HT.out.1.frame2 kq.os kq.tape kq.output kq.size (fun g hg hn => kq.block g hg ⟨fun e => hn (.inr ⟨by omega, by omega⟩), fun e => hn (.inr ⟨by omega, by omega⟩), fun e => hn (.inr ⟨by omega, by omega⟩)⟩)
  refine ⟨hf.sub (fun g hg => .inl (.inl hg)), HT.out.2.trans (kq.sub (fun g hg => ?_))⟩
  have := hNo g hg
  exact ⟨by omega, by omega, by omega⟩
theorem next_any {No : Nat → Prop} {w : World} {T A b a S hb c : Nat} {t : TS} {s : H.St} (h : TT No w T A b a S hb c t s) (hc : c ≤ 700000) (k : V) (hr : Rng k) :
    Calls Tryz.prog 22 #[tp T, vv k] w fun e w' => e = .returned (.tuple #[vv (wnx t.p k).1, vv (wnx t.p k).2.1, .int .i64 (wnx t.p k).2.2]) ∧ TT No w' T A b a S hb (c + 1) { t with pr := t.pr + (if fm k = true ∧ k.1 ≠ 0 then prd t.p k else 0 : Nat) } s ∧ Keep No w w' := by
  cases hk : fm k with
  | false => have q := next_form h k hk; unfold NxP at q; rw [hk] at q; exact q
  | true =>
    by_cases hk0 : k.1 = 0
    · have e : k = nil := nil_of hk hk0
      have q := callsIn_wide.1 (next_nil h)
      unfold NxP at q
      rw [← e, hk] at q
      exact q
    · have hnn : 0 ≤ plc t.p k := by
        unfold plc
        split
        · rename_i q; have := q.2.2.1; omega
        · split <;> omega
      by_cases hp : plc t.p k = 0
      · have q := next_key h k hc hr hk hk0 hp; unfold NxP at q; rw [hk] at q; exact q
      · have q := callsIn_wide.1 (next_at h hc k hr hk hk0 (plc t.p k).toNat (by omega) (by omega))
        unfold NxP at q; rw [hk] at q; exact q
end Go.Proofs.YtoomlihccniooaaGreat
