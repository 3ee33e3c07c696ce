/- The walks of Next and List at a nil table. -/
import Derived.Test.YtoomlihccniooaaGreatCg46
import Derived.Test.YtoomlihccniooaaGreatCg40
import Derived.ProofKit
import Derived.OpenShut
import Derived.ChangeSlices
import Derived.ChangeOld
import Derived.SizedLaws
import Derived.Deep.Slices
import Derived.Deep.Fields
import Derived.Deep.Strs
namespace Go.Proofs.YtoomlihccniooaaGreat
open Go.RowKit Go.Shelf
attribute [local go_sem] Oper.semAt_some

set_option maxRecDepth 100000 in
set_option maxHeartbeats 2000000 in
theorem iter_none (l Xt Xp : Nat) (W : World) (ct : W.cell? ⟨Xt, 0, none⟩ = some (.pointer none)) (cp : W.cell? ⟨Xp, 0, none⟩ = some (.int .i64 0)) (J : List (V × V) → World → Prop) (hJ : AbidesFrom W.heap.size J) (h0 : J [] W) :
    CallsIn Fence.wide 5 Tryz.prog 81 #[.func (.yield l) #[] #[], .pointer (some ⟨Xt, 0, none⟩), .pointer (some ⟨Xp, 0, none⟩)] W fun e W' => (∃ v, e = .returned v) ∧ J [] W' := by
  have CP : CallsIn Fence.wide 4 Tryz.prog 82 #[.pointer none] W.drew fun e w' => e = .returned (.int .i64 0) ∧ w' = W.drew := callsIn_wide.2 (places_nil W.drew)
  have hmo : Tryz.prog.follows Departure.mixedOrders = true := by kernel_rfl
  have HJ0 : Hid (J [] W.drew) := abides_below hJ h0 (bdrew1 W)
  refine callsIn_of_wp Tryz.func81 rfl trivial ?_ rfl
  simp only [Tryz.ntmps81, List.size_toArray, List.length_cons, List.length_nil, Nat.reduceAdd, Nat.reduceSub, Array.replicate_succ, Array.replicate_zero, List.push_toArray, List.append_toArray, List.nil_append, List.cons_append]
  gi_wp2
  gi_region_with_o (refine ⟨trivial, ?_⟩; gi_at_call 82; refine CP.mono ?_; rintro e w1 ⟨rfl, hw1⟩; rw [hw1]; clear hw1)
  all_goals
    gi_wp2
    first | go_simp | simp [Act.put]
    gi_loopw [11] (fun iw wr => iw = .int .i64 0 ∧ wr = W.drew) (fun _ _ => 0)
    case atStart => exact ⟨rfl, rfl⟩
    case round =>
      obtain ⟨rfl, rfl⟩ := hrel
      gi_wp2
      go_end0
      exact ⟨⟨_, rfl⟩, HJ0.out⟩
theorem none_stops (Nn Xt Xp : Nat) (w : World) (ct : w.cell? ⟨Xt, 0, none⟩ = some (.pointer none)) (cp : w.cell? ⟨Xp, 0, none⟩ = some (.int .i64 0)) :
    SeqStopsK Fence.wide 5 Tryz.prog 81 #[.pointer (some ⟨Xt, 0, none⟩), .pointer (some ⟨Xp, 0, none⟩)] encP (Keep (fun g => g < w.heap.size)) (fun xs => xs = []) (fun _ => False) Nn w :=
  fun l J Jx W hW hJ _ hY h0 => (iter_none l Xt Xp W (by rw [hW.cell (by exact World.block_lt_of_cell? w _ ct)]; exact ct) (by rw [hW.cell (by exact World.block_lt_of_cell? w _ cp)]; exact cp) J hJ h0).mono fun e w' hh => ⟨hh.1, .inl ⟨[], rfl, hh.2⟩⟩
set_option maxRecDepth 100000 in
set_option maxHeartbeats 4000000 in
theorem next_none (w : World) :
    CallsIn Fence.wide 6 Tryz.prog 22 #[.pointer none, vv nil] w fun e w' => e = .returned (.tuple #[vv nil, vv nil, .int .i64 0]) ∧ Below w.heap.size w w' := by
  obtain ⟨B0, hsz, X, R1, R2, c3, f3⟩ := next_blocks w nil
  obtain ⟨W0, hW0⟩ : ∃ W0, (((w.alloc (vb nil.1 nil.2.1 nil.2.2)).alloc (vb 0 0 ⟨#[]⟩)).alloc (vb 0 0 ⟨#[]⟩)).alloc (.cells #[.int .i64 0] 34) = W0 := ⟨_, rfl⟩
  rw [hW0] at B0 hsz X R1 R2 c3 f3
  have C1 : CallsIn Fence.wide 5 Tryz.prog 31 #[.agg #[.int .i64 0, .int .i64 0, .string ⟨#[]⟩]] W0 fun e w' => e = .returned (.int .i64 0) ∧ w' = W0.alloc (vb 0 0 ⟨#[]⟩) := by
    have q := check_any nil.1 nil.2.1 nil.2.2 W0
    rw [chk_ok fm_nil] at q
    exact callsIn_wide.2 q
  have x0 : W0.cell? ⟨w.heap.size, 0, none⟩ = some (.int .i64 0) := X.c0
  have x1 : W0.cell? ⟨w.heap.size, 1, none⟩ = some (.int .i64 0) := X.c1
  have x2 : W0.cell? ⟨w.heap.size, 2, none⟩ = some (.string ⟨#[]⟩) := X.c2
  have B1 := b1 W0 (vb 0 0 ⟨#[]⟩)
  have z1 : (W0.alloc (vb 0 0 ⟨#[]⟩)).heap.size = w.heap.size + 5 := by simp; omega
  obtain ⟨W2, hW2⟩ : ∃ W2, W0.alloc (vb 0 0 ⟨#[]⟩) = W2 := ⟨_, rfl⟩
  rw [hW2] at C1 B1 z1
  have y0 : W2.cell? ⟨w.heap.size, 0, none⟩ = some (.int .i64 0) := (X.below B1).c0
  have hS2 : w.heap.size + 5 ≤ W2.heap.size := by omega
  have R1' := R1.below B1
  have R2' := R2.below B1
  have c3' : W2.cell? ⟨w.heap.size + 3, 0, none⟩ = some (.int .i64 0) := by rw [World.cell?_of_block (w := W0) (B1.block (w.heap.size + 3) (by omega))]; exact c3
  have f3' : W2.frozen? ⟨w.heap.size + 3, 0, none⟩ = false := by rw [World.frozen?_of_block (w := W0) (B1.block (w.heap.size + 3) (by omega))]; exact f3
  clear z1
  unfold vb at hW0 hW2
  unfold nil at hW0
  unfold vv vl
  have hmo : Tryz.prog.follows Departure.mixedOrders = true := by kernel_rfl
  unfold nil
  refine callsIn_of_wp_marks Tryz.func22 rfl trivial ?_ rfl
  simp only [Tryz.ntmps22, List.size_toArray, List.length_cons, List.length_nil, Nat.reduceAdd, Nat.reduceSub, Array.replicate_succ, Array.replicate_zero, List.push_toArray, List.append_toArray, List.nil_append, List.cons_append]
  gi_wp2_with (first
    | (refine ⟨trivial, ?_⟩; gi_at_call 31; refine C1.mono ?_; rintro e w1 ⟨rfl, hw1⟩; rw [hw1]; clear hw1 C1)
    | (refine ⟨trivial, ?_⟩; gi_at_call 53; refine (callsIn_wide.2 (behind_any _ _ _)).mono ?_; rintro e w1 ⟨rfl, hw1⟩; rw [hw1]; clear hw1))
  have BL := b2 W2 (.cells #[.pointer none] 26) (.cells #[.int .i64 0] 3)
  have hL : ((W2.alloc (.cells #[.pointer none] 26)).alloc (.cells #[.int .i64 0] 3)).heap.size = W2.heap.size + 2 := by simp
  have hxt : ((W2.alloc (.cells #[.pointer none] 26)).alloc (.cells #[.int .i64 0] 3)).cell? ⟨W2.heap.size, 0, none⟩ = some (.pointer none) := by
    rw [(b1 (W2.alloc (.cells #[.pointer none] 26)) (.cells #[.int .i64 0] 3)).cell (by simp)]
    exact cell_of_row (MapKept.heap_alloc W2 _).1 0
  have hxp : ((W2.alloc (.cells #[.pointer none] 26)).alloc (.cells #[.int .i64 0] 3)).cell? ⟨W2.heap.size + 1, 0, none⟩ = some (.int .i64 0) := by
    have q := (MapKept.heap_alloc (W2.alloc (.cells #[.pointer none] 26)) (.cells #[.int .i64 0] 3)).1
    rw [show (W2.alloc (.cells #[.pointer none] 26)).heap.size = W2.heap.size + 1 by simp] at q
    exact cell_of_row q 0
  obtain ⟨WL, hWL⟩ : ∃ WL, (W2.alloc (.cells #[.pointer none] 26)).alloc (.cells #[.int .i64 0] 3) = WL := ⟨_, rfl⟩
  rw [hWL] at BL hL hxt hxp ⊢
  have RL1 := R1'.below BL
  have RL2 := R2'.below BL
  have cL3 : WL.cell? ⟨w.heap.size + 3, 0, none⟩ = some (.int .i64 0) := by rw [World.cell?_of_block (w := W2) (BL.block (w.heap.size + 3) (by omega))]; exact c3'
  have fL3 : WL.frozen? ⟨w.heap.size + 3, 0, none⟩ = false := by rw [World.frozen?_of_block (w := W2) (BL.block (w.heap.size + 3) (by omega))]; exact f3'
  have HFin : Hid (∀ W, Keep (fun g => g < WL.heap.size ∧ g ≠ w.heap.size + 1 ∧ g ≠ w.heap.size + 2 ∧ g ≠ w.heap.size + 3) WL W → Below w.heap.size w W) := fun W q =>
    (bthen (bthen B0 B0.size B1) (bthen B0 B0.size B1).size BL).trans (q.below (by omega) (fun g hg => ⟨by omega, by omega, by omega, by omega⟩))
  refine wpIn_rangeFunc_ownH (n := 6) rfl (by omega) (gf := 81) (lb := #[.pointer (some ⟨W2.heap.size, 0, none⟩), .pointer (some ⟨W2.heap.size + 1, 0, none⟩)]) rfl trivial (enters_of Tryz.func81 (by kernel_rfl) rfl)
    (none_stops 1 W2.heap.size (W2.heap.size + 1) WL hxt hxp) keepK_t (keepK_b (fun g q => q)) (Below.refl _ _) (fun _ => rfl)
    (fun pre W => pre = [] ∧ Keep (fun g => g < WL.heap.size) WL W)
    (fun cd pre W => cd = .ret ∧ ∃ x, pre = [x] ∧ Nfin WL w.heap.size x W)
    (ownFrom_of fun s W W' hs hk => ⟨hs.1, hs.2.trans hk⟩) (fun cd => ownFrom_of fun s W W' hs hk => ⟨hs.1, hs.2.choose, hs.2.choose_spec.1, hs.2.choose_spec.2.kept (by omega) hk⟩) ⟨rfl, Keep.refl _ _⟩
    (fun x a' W => ∃ Bk, WL.heap.size ≤ Bk ∧ Box2 W Bk x ∧ a' = { tmps := #[.pointer none, .agg #[.int .i64 0, .int .i64 0, .string ⟨#[]⟩], undef, .pointer (some ⟨w.heap.size, 0, none⟩), .pointer (some ⟨w.heap.size + 1, 0, none⟩), .pointer (some ⟨w.heap.size + 1 + 1, 0, none⟩), .pointer (some ⟨w.heap.size + 1 + 1 + 1, 0, none⟩), .int .i64 0, .int .i64 0, .pointer (some ⟨Bk, 0, none⟩), .pointer (some ⟨Bk + 1, 0, none⟩), .agg #[.int .i64 0, .int .i64 0, .string ⟨#[]⟩], .int .i64 0, .int .i64 0, .bool false, undef, undef, .pointer (some ⟨w.heap.size, 0, none⟩), .int .i64 0, .bool false, undef, undef, undef, undef, undef, undef, undef, .pointer none, .int .i64 0, .func (.func 81) #[] #[.pointer (some ⟨W2.heap.size, 0, none⟩), .pointer (some ⟨W2.heap.size + 1, 0, none⟩)], .agg #[.int .i64 x.1.1, .int .i64 x.1.2.1, .string x.1.2.2], .agg #[.int .i64 x.2.1, .int .i64 x.2.2.1, .string x.2.2.2], undef, undef, undef, undef], defers := [] })
    (fun x a' => fun _ A' B' row hs hg hr => ⟨hs.choose, hs.choose_spec.1, hs.choose_spec.2.1.own hg (fun r e => (hr r e).2), hs.choose_spec.2.2⟩) ?assign ?body ?done ?stop
  case assign =>
    rintro l pre x W K ⟨hpre, hkw⟩ hK
    have hb2 := Box2.made W x
    have kk : Keep (fun g => g < WL.heap.size) W ((W.alloc (.cells #[.int .i64 x.1.1, .int .i64 x.1.2.1, .string x.1.2.2] 31)).alloc (.cells #[.int .i64 x.2.1, .int .i64 x.2.2.1, .string x.2.2.2] 31)) := ((Keep.refl _ W).alloc _).alloc _
    have ko := ((KeepsOthers.alloc W (.cells #[.int .i64 x.1.1, .int .i64 x.1.2.1, .string x.1.2.2] 31)).trans (KeepsOthers.alloc _ (.cells #[.int .i64 x.2.1, .int .i64 x.2.2.1, .string x.2.2.2] 31))).from WL.heap.size
    have hks := hkw.size
    unfold encP
    gi_wp2
    exact hK _ _ ko kk ⟨hpre, hkw.trans kk⟩ ⟨W.heap.size, hks, hb2, by simp⟩
  case body =>
    rintro l pre x a' W hl _ ⟨hpre, hkw⟩ ⟨Bk, hBk, hbx, rfl⟩ _
    obtain ⟨q1, q2, q3, q4⟩ := nfin_of (WL := WL) (N := w.heap.size) hkw (RL1.kept hkw (by show w.heap.size + 1 < _; omega)) (RL2.kept hkw (by show w.heap.size + 2 < _; omega)) (by rw [World.cell?_of_block (w := WL) (hkw.block (w.heap.size + 3) (by omega) (by show w.heap.size + 3 < _; omega))]; exact cL3) (by rw [World.frozen?_of_block (w := WL) (hkw.block (w.heap.size + 3) (by omega) (by show w.heap.size + 3 < _; omega))]; exact fL3) x
    have RW1 := RL1.kept hkw (by show w.heap.size + 1 < _; omega)
    have d0 : W.cell? ⟨w.heap.size + 1, 0, none⟩ = some (.int .i64 0) := RW1.bx.c0
    have d1 : W.cell? ⟨w.heap.size + 1, 1, none⟩ = some (.int .i64 0) := RW1.bx.c1
    have d2 : W.cell? ⟨w.heap.size + 1, 2, none⟩ = some (.string ⟨#[]⟩) := RW1.bx.c2
    have df := RW1.fz
    have ko : KeepsOthers W ((set3 (set3 W (w.heap.size + 1) x.1) (w.heap.size + 2) x.2).setCell ⟨w.heap.size + 3, 0, none⟩ (.int .i64 0)) := (((((((KeepsOthers.setCell _ _ _).trans (KeepsOthers.setCell _ _ _)).trans (KeepsOthers.setCell _ _ _)).trans (KeepsOthers.setCell _ _ _)).trans (KeepsOthers.setCell _ _ _)).trans (KeepsOthers.setCell _ _ _)).trans (KeepsOthers.setCell _ _ _))
    have hbxa : Box2 (set3 W (w.heap.size + 1) x.1) Bk x := hbx.kept (Ks := fun g => g ≠ w.heap.size + 1) ((Keep.refl _ W).set3 (fun q => q rfl) x.1) (by show Bk ≠ _; omega) (by show Bk + 1 ≠ _; omega)
    have n0 := hbx.k0
    have n1 := hbx.k1
    have n2 := hbx.k2
    have n3 := hbx.v0
    have n4 := hbx.v1
    have n5 := hbx.v2
    obtain ⟨Wa, hWa⟩ : ∃ Wa, set3 W (w.heap.size + 1) x.1 = Wa := ⟨_, rfl⟩
    rw [hWa] at q1 q2 q3 q4 ko hbxa
    have e0 : Wa.cell? ⟨w.heap.size + 1 + 1, 0, none⟩ = some (.int .i64 0) := q2.bx.c0
    have e1 : Wa.cell? ⟨w.heap.size + 1 + 1, 1, none⟩ = some (.int .i64 0) := q2.bx.c1
    have e2 : Wa.cell? ⟨w.heap.size + 1 + 1, 2, none⟩ = some (.string ⟨#[]⟩) := q2.bx.c2
    have ef : ∀ j, Wa.frozen? ⟨w.heap.size + 1 + 1, j, none⟩ = false := q2.fz
    obtain ⟨Wb, hWb⟩ : ∃ Wb, set3 Wa (w.heap.size + 1 + 1) x.2 = Wb := ⟨_, rfl⟩
    have hWb' : set3 Wa (w.heap.size + 2) x.2 = Wb := hWb
    rw [hWb'] at q1 q3 q4 ko
    have g0 : Wb.cell? ⟨w.heap.size + 1 + 1 + 1, 0, none⟩ = some (.int .i64 0) := q3
    have gf : Wb.frozen? ⟨w.heap.size + 1 + 1 + 1, 0, none⟩ = false := q4
    obtain ⟨Wc, hWc⟩ : ∃ Wc, Wb.setCell ⟨w.heap.size + 1 + 1 + 1, 0, none⟩ (.int .i64 0) = Wc := ⟨_, rfl⟩
    have hWc' : Wb.setCell ⟨w.heap.size + 3, 0, none⟩ (.int .i64 0) = Wc := hWc
    rw [hWc'] at q1 ko
    unfold set3 at hWa hWb
    have HQ : Hid (Nfin WL w.heap.size x Wc) := q1
    have HKo : Hid (KeepsOthers W Wc) := ko
    have m3 := hbxa.v0
    have m4 := hbxa.v1
    have m5 := hbxa.v2
    clear q1 q2 q3 q4 ko hWb' hWc' RW1
    gi_wp2
    gi_region_with_o fail
    all_goals
      gi_wp2
      first | exact ⟨HKo.out.from _, rfl, x, by rw [hpre]; rfl, HQ.out⟩ | exact ⟨(HKo.out.trans (KeepsOthers.drew _)).from _, rfl, x, by rw [hpre]; rfl, HQ.out.drew⟩
  case done =>
    rintro D xs W hD hxs ⟨hpre, hkw⟩ hK
    obtain ⟨q1, q2, q3, q4⟩ := nfin_of (WL := WL) (N := w.heap.size) hkw (RL1.kept hkw (by show w.heap.size + 1 < _; omega)) (RL2.kept hkw (by show w.heap.size + 2 < _; omega)) (by rw [World.cell?_of_block (w := WL) (hkw.block (w.heap.size + 3) (by omega) (by show w.heap.size + 3 < _; omega))]; exact cL3) (by rw [World.frozen?_of_block (w := WL) (hkw.block (w.heap.size + 3) (by omega) (by show w.heap.size + 3 < _; omega))]; exact fL3) ((nil, nil) : V × V)
    have RW1 := RL1.kept hkw (by show w.heap.size + 1 < _; omega)
    have d0 : W.cell? ⟨w.heap.size + 1, 0, none⟩ = some (.int .i64 0) := RW1.bx.c0
    have d1 : W.cell? ⟨w.heap.size + 1, 1, none⟩ = some (.int .i64 0) := RW1.bx.c1
    have d2 : W.cell? ⟨w.heap.size + 1, 2, none⟩ = some (.string ⟨#[]⟩) := RW1.bx.c2
    have df := RW1.fz
    have ko : KeepsOthers W ((set3 (set3 W (w.heap.size + 1) ((nil, nil) : V × V).1) (w.heap.size + 2) ((nil, nil) : V × V).2).setCell ⟨w.heap.size + 3, 0, none⟩ (.int .i64 0)) := (((((((KeepsOthers.setCell _ _ _).trans (KeepsOthers.setCell _ _ _)).trans (KeepsOthers.setCell _ _ _)).trans (KeepsOthers.setCell _ _ _)).trans (KeepsOthers.setCell _ _ _)).trans (KeepsOthers.setCell _ _ _)).trans (KeepsOthers.setCell _ _ _))
    obtain ⟨Wa, hWa⟩ : ∃ Wa, set3 W (w.heap.size + 1) ((nil, nil) : V × V).1 = Wa := ⟨_, rfl⟩
    rw [hWa] at q1 q2 q3 q4 ko
    have e0 : Wa.cell? ⟨w.heap.size + 1 + 1, 0, none⟩ = some (.int .i64 0) := q2.bx.c0
    have e1 : Wa.cell? ⟨w.heap.size + 1 + 1, 1, none⟩ = some (.int .i64 0) := q2.bx.c1
    have e2 : Wa.cell? ⟨w.heap.size + 1 + 1, 2, none⟩ = some (.string ⟨#[]⟩) := q2.bx.c2
    have ef : ∀ j, Wa.frozen? ⟨w.heap.size + 1 + 1, j, none⟩ = false := q2.fz
    obtain ⟨Wb, hWb⟩ : ∃ Wb, set3 Wa (w.heap.size + 1 + 1) ((nil, nil) : V × V).2 = Wb := ⟨_, rfl⟩
    have hWb' : set3 Wa (w.heap.size + 2) ((nil, nil) : V × V).2 = Wb := hWb
    rw [hWb'] at q1 q3 q4 ko
    have g0 : Wb.cell? ⟨w.heap.size + 1 + 1 + 1, 0, none⟩ = some (.int .i64 0) := q3
    have gf : Wb.frozen? ⟨w.heap.size + 1 + 1 + 1, 0, none⟩ = false := q4
    obtain ⟨Wc, hWc⟩ : ∃ Wc, Wb.setCell ⟨w.heap.size + 1 + 1 + 1, 0, none⟩ (.int .i64 0) = Wc := ⟨_, rfl⟩
    have hWc' : Wb.setCell ⟨w.heap.size + 3, 0, none⟩ (.int .i64 0) = Wc := hWc
    rw [hWc'] at q1 ko
    unfold set3 at hWa hWb
    have HQ : Hid (Nfin WL w.heap.size ((nil, nil) : V × V) Wc) := q1
    have HKo : Hid (KeepsOthers W Wc) := ko
    clear q1 q2 q3 q4 ko hWb' hWc' RW1
    have hK' : Wc.heap[D]? = some (.deferred (some [])) := HKo.out.same D _ hK rfl
    unfold nil at hWa hWb
    gi_wp2
    all_goals
      refine ⟨by simp, .inl ⟨_, _, rfl, run_takeDeferred hK', ?_⟩⟩
      have hfin' := HQ.out
      have hD4 := hfin'.keep
      have hKD : Keep (fun g => g < WL.heap.size) Wc (Wc.putObj D (.deferred none)) := keepK_b (w := WL) (fun g q => q) Wc D _ _ hD hK' rfl rfl
      have hfz := hfin'.kept (by omega) hKD
      have o0 := hfz.b1.c0
      have o1 := hfz.b1.c1
      have o2 := hfz.b1.c2
      have p0 := hfz.b2.c0
      have p1 := hfz.b2.c1
      have p2 := hfz.b2.c2
      have r0 := hfz.c3
      refine ⟨.tuple #[.agg #[.int .i64 ((nil, nil) : V × V).1.1, .int .i64 ((nil, nil) : V × V).1.2.1, .string ((nil, nil) : V × V).1.2.2], .agg #[.int .i64 ((nil, nil) : V × V).2.1, .int .i64 ((nil, nil) : V × V).2.2.1, .string ((nil, nil) : V × V).2.2.2], .int .i64 0], by simp [results, Tryz.results22, go_sem, o0, o1, o2, p0, p1, p2, r0], ?_⟩
      have hq9 := HFin.out _ hfz.keep
      exact ⟨rfl, hq9⟩
  case stop =>
    rintro D cd pre W hD hpre _ hK
    exact hpre.elim
set_option maxRecDepth 100000 in
set_option maxHeartbeats 4000000 in
theorem list_none (w : World) :
    CallsIn Fence.wide 6 Tryz.prog 25 #[.pointer none] w fun e w' => ∃ v, e = .returned v ∧ w'.ownsRow w.heap.size 104 6 v 0 [] ∧ Below w.heap.size w w' := by
  have B0 := b1 w (.cells #[.slice none 0 0] 62)
  have hb0 : Boxed (w.alloc (.cells #[.slice none 0 0] 62)) w.heap.size 62 (.slice none 0 0) := Boxed.new w 62 _
  have e0 : (w.alloc (.cells #[.slice none 0 0] 62)).heap.size = w.heap.size + 1 := by simp
  obtain ⟨W2, hW2⟩ : ∃ W2, w.alloc (.cells #[.slice none 0 0] 62) = W2 := ⟨_, rfl⟩
  rw [hW2] at B0 hb0 e0
  have hmo : Tryz.prog.follows Departure.mixedOrders = true := by kernel_rfl
  have BL := b2 W2 (.cells #[.pointer none] 26) (.cells #[.int .i64 (0 : Nat)] 3)
  have hL : ((W2.alloc (.cells #[.pointer none] 26)).alloc (.cells #[.int .i64 (0 : Nat)] 3)).heap.size = W2.heap.size + 2 := by simp
  have hxt : ((W2.alloc (.cells #[.pointer none] 26)).alloc (.cells #[.int .i64 (0 : Nat)] 3)).cell? ⟨W2.heap.size, 0, none⟩ = some (.pointer none) := by
    rw [(b1 (W2.alloc (.cells #[.pointer none] 26)) (.cells #[.int .i64 (0 : Nat)] 3)).cell (by simp)]
    exact cell_of_row (MapKept.heap_alloc W2 _).1 0
  have hxp : ((W2.alloc (.cells #[.pointer none] 26)).alloc (.cells #[.int .i64 (0 : Nat)] 3)).cell? ⟨W2.heap.size + 1, 0, none⟩ = some (.int .i64 (0 : Nat)) := by
    have q := (MapKept.heap_alloc (W2.alloc (.cells #[.pointer none] 26)) (.cells #[.int .i64 (0 : Nat)] 3)).1
    rw [show (W2.alloc (.cells #[.pointer none] 26)).heap.size = W2.heap.size + 1 by simp] at q
    exact cell_of_row q 0
  have hbL : Boxed ((W2.alloc (.cells #[.pointer none] 26)).alloc (.cells #[.int .i64 (0 : Nat)] 3)) w.heap.size 62 (.slice none 0 0) := (hb0.alloc _).alloc _
  have HE0 : Hid (W2.heap.size = w.heap.size + 1) := e0
  clear e0
  refine callsIn_of_wp_marks Tryz.func25 rfl trivial ?_ rfl
  simp only [Tryz.ntmps25, List.size_toArray, List.length_cons, List.length_nil, Nat.reduceAdd, Nat.reduceSub, Array.replicate_succ, Array.replicate_zero, List.push_toArray, List.append_toArray, List.nil_append, List.cons_append]
  gi_wp2_with (refine ⟨trivial, ?_⟩; gi_at_call 53; refine (callsIn_wide.2 (behind_any _ _ _)).mono ?_; rintro e w1 ⟨rfl, hw1⟩; rw [hw1]; clear hw1)
  obtain ⟨WL, hWL⟩ : ∃ WL, (W2.alloc (.cells #[.pointer none] 26)).alloc (.cells #[.int .i64 (0 : Nat)] 3) = WL := ⟨_, rfl⟩
  have hWL' : (W2.alloc (.cells #[.pointer none] 26)).alloc (.cells #[.int .i64 0] 3) = WL := hWL
  rw [hWL] at BL hL hxt hxp hbL
  rw [hWL']
  have HL : Hid (WL.heap.size = W2.heap.size + 2) := hL
  clear hL
  refine wpIn_rangeFunc_ownH (n := 6) rfl (by omega) (gf := 81) (lb := #[.pointer (some ⟨W2.heap.size, 0, none⟩), .pointer (some ⟨W2.heap.size + 1, 0, none⟩)]) rfl trivial (enters_of Tryz.func81 (by kernel_rfl) rfl)
    (none_stops 0 W2.heap.size (W2.heap.size + 1) WL hxt hxp) keepK_t (keepK_b (fun g q => q)) (Below.refl _ _) (fun _ => rfl)
    (fun pre W => pre = [] ∧ Keep (fun g => g < WL.heap.size) WL W)
    (fun _ _ _ => False)
    (ownFrom_of fun s W W' hs hk => ⟨hs.1, hs.2.trans hk⟩) (fun cd => ownFrom_of fun s W W' hs hk => hs) ⟨rfl, Keep.refl _ _⟩
    (fun _ _ _ => True) (fun x a' => fun _ A' B' row hs hg hr => trivial) ?assign ?body ?done ?stop
  case assign =>
    rintro l pre x W K ⟨hpre, hkw⟩ hK
    have kk : Keep (fun g => g < WL.heap.size) W ((W.alloc (.cells #[.int .i64 x.1.1, .int .i64 x.1.2.1, .string x.1.2.2] 31)).alloc (.cells #[.int .i64 x.2.1, .int .i64 x.2.2.1, .string x.2.2.2] 31)) := ((Keep.refl _ W).alloc _).alloc _
    have ko := ((KeepsOthers.alloc W (.cells #[.int .i64 x.1.1, .int .i64 x.1.2.1, .string x.1.2.2] 31)).trans (KeepsOthers.alloc _ (.cells #[.int .i64 x.2.1, .int .i64 x.2.2.1, .string x.2.2.2] 31))).from WL.heap.size
    unfold encP
    gi_wp2
    exact hK _ _ ko kk ⟨hpre, hkw.trans kk⟩ trivial
  case body =>
    rintro l pre x a' W hl _ _ _ hlt
    exact absurd hlt (Nat.not_lt_zero _)
  case done =>
    rintro D xs W hD hxs ⟨hpre, hkw⟩ hK
    have hbW : Boxed W w.heap.size 62 (.slice none 0 0) := (hkw.block w.heap.size hbL.lt hbL.lt).trans hbL
    have hc0 := hbW.cell
    gi_wp2
    refine ⟨by simp, .inl ⟨_, _, rfl, run_takeDeferred hK, ?_⟩⟩
    refine ⟨.slice none 0 0, by simp [results, Tryz.results25, go_sem], _, rfl, World.ownsRow_nil _ _ _ _, ?_⟩
    have kq := hkw.trans (keepK_b (Ks := fun g => g < WL.heap.size) (w := WL) (fun g q => q) W D _ (.deferred none) hD hK rfl rfl)
    exact (bthen B0 B0.size BL).trans (kq.below (by have := HE0.out; have := HL.out; omega) (fun g hg => by have := HE0.out; have := HL.out; show g < _; omega))
  case stop =>
    rintro D c pre W _ _ h _
    exact h.elim
end Go.Proofs.YtoomlihccniooaaGreat

/- How a case that came in is read: two sizes, a list of operations. -/
namespace Go.Proofs.YtoomlihccniooaaGreat.Q
open Go.RowKit Go.ChangeShapes Go.WideShapes Go.ChangeAt Go.Deep

abbrev cw (x y : Int) (v : Value) : Value := .agg #[.int .i64 x, .int .i64 y, v]
/-- An operation's seven cells. -/
def oc (q : Int × V × V) : Nat → Value
  | 0 => .int .i64 q.1
  | 1 => .int .i64 q.2.1.1
  | 2 => .int .i64 q.2.1.2.1
  | 3 => .string q.2.1.2.2
  | 4 => .int .i64 q.2.2.1
  | 5 => .int .i64 q.2.2.2.1
  | _ => .string q.2.2.2.2
/-- The list of L operations that v is, all below block N. -/
def Ops (N : Nat) (w : World) (a : Option Addr) (L : Nat) (Q : Nat → Int × V × V) : Prop :=
  (∀ i, i < L → Rng (Q i).2.1) ∧ (0 < L → ∃ b off, a = some ⟨b, off, none⟩ ∧ b < N ∧ ∀ i, i < L → ∀ j, j < 7 → w.cell? ⟨b, off + i * 7 + j, none⟩ = some (oc (Q i) j))
theorem Ops.below {N : Nat} {w w' : World} {a : Option Addr} {L : Nat} {Q : Nat → Int × V × V} (h : Ops N w a L Q) (hb : Below N w w') : Ops N w' a L Q := by
  refine ⟨h.1, fun hl => ?_⟩
  obtain ⟨b, off, rfl, hg, hx⟩ := h.2 hl
  exact ⟨b, off, rfl, hg, fun i hi j hj => by rw [hb.cell (by exact hg)]; exact hx i hi j hj⟩
theorem Ops.cut {N : Nat} {w : World} {a : Option Addr} {L m : Nat} {Q : Nat → Int × V × V} (h : Ops N w a L Q) (hm : m ≤ L) : Ops N w a m Q := by
  refine ⟨fun i hi => h.1 i (by omega), fun hl => ?_⟩
  obtain ⟨b, off, rfl, hg, hx⟩ := h.2 (by omega)
  exact ⟨b, off, rfl, hg, fun i hi j hj => hx i (by omega) j hj⟩
theorem Ops.at {N : Nat} {w : World} {a : Option Addr} {L : Nat} {Q : Nat → Int × V × V} (h : Ops N w a L Q) {i : Nat} (hi : i < L) : ∃ b off, a = some ⟨b, off, none⟩ ∧ b < N ∧
    w.cell? ⟨b, off + i * 7, none⟩ = some (.int .i64 (Q i).1) ∧ w.cell? ⟨b, off + i * 7 + 1, none⟩ = some (.int .i64 (Q i).2.1.1) ∧ w.cell? ⟨b, off + i * 7 + 2, none⟩ = some (.int .i64 (Q i).2.1.2.1) ∧ w.cell? ⟨b, off + i * 7 + 3, none⟩ = some (.string (Q i).2.1.2.2) ∧
    w.cell? ⟨b, off + i * 7 + 4, none⟩ = some (.int .i64 (Q i).2.2.1) ∧ w.cell? ⟨b, off + i * 7 + 5, none⟩ = some (.int .i64 (Q i).2.2.2.1) ∧ w.cell? ⟨b, off + i * 7 + 6, none⟩ = some (.string (Q i).2.2.2.2) := by
  obtain ⟨b, off, rfl, hg, hx⟩ := h.2 (by omega)
  exact ⟨b, off, rfl, hg, hx i hi 0 (by omega), hx i hi 1 (by omega), hx i hi 2 (by omega), hx i hi 3 (by omega), hx i hi 4 (by omega), hx i hi 5 (by omega), hx i hi 6 (by omega)⟩

theorem cells3 : Tryz.prog.cellsOf 3 = 1 := by kernel_rfl
theorem cells9 : Tryz.prog.cellsOf 9 = 1 := by kernel_rfl
theorem cells22 : Tryz.prog.cellsOf 52 = 1 := by kernel_rfl
theorem cells33v : Tryz.prog.cellsOf 31 = 3 := by kernel_rfl
theorem cells35 : Tryz.prog.cellsOf 57 = 7 := by kernel_rfl
theorem cells24 : Tryz.prog.cellsOf 54 = 3 := by kernel_rfl
theorem laidOut : laidOutB Tryz.prog = true := by kernel_rfl
theorem elem_val {H : Type} {enc : TypeId × Value → H} {W : World} {base : Nat} {sp : Nat → Bool} {held : Bool} {fuel : Nat} {cs : List Value} {x : DataW H × List MemPlace}
    (hlen : cs.length = 3) (hf : DataW.trod enc Tryz.prog W base sp held fuel 31 cs = some x) :
    ∃ (k n : Int) (s : ByteArray), cs = [.int .i64 k, .int .i64 n, .string s] ∧ (Lit.int .i64 n).wf = true := by
  obtain ⟨c0, c1, c2, rfl⟩ : ∃ c0 c1 c2, cs = [c0, c1, c2] := by
    match cs, hlen with
    | [c0, c1, c2], _ => exact ⟨c0, c1, c2, rfl⟩
  obtain ⟨y0, y1, y2, m, hx, _, t0, t1, t2⟩ := trod_struct3 Tryz.underlying31 hf
  obtain ⟨k, e0, f0, g0⟩ := DataW.trod_int Tryz.underlying3 t0
  obtain ⟨n, e1, f1, g1⟩ := DataW.trod_int Tryz.underlying3 t1
  obtain ⟨s, e2, f2, g2⟩ := DataW.trod_string Tryz.underlying9 t2
  simp [cells3, cells9] at e0 e1 e2
  subst e0 e1 e2
  exact ⟨k, n, s, rfl, g1⟩
set_option maxRecDepth 100000 in
theorem elem_op {H : Type} {enc : TypeId × Value → H} {W : World} {base : Nat} {sp : Nat → Bool} {held : Bool} {fuel : Nat} {cs : List Value} {x : DataW H × List MemPlace}
    (hlen : cs.length = 7) (hf : DataW.trod enc Tryz.prog W base sp held fuel 57 cs = some x) : ∃ q : Int × V × V, (∀ j, j < 7 → cs[j]? = some (oc q j)) ∧ Rng q.2.1 := by
  obtain ⟨c0, c1, c2, c3, c4, c5, c6, rfl⟩ : ∃ c0 c1 c2 c3 c4 c5 c6, cs = [c0, c1, c2, c3, c4, c5, c6] := by
    match cs, hlen with
    | [c0, c1, c2, c3, c4, c5, c6], _ => exact ⟨c0, c1, c2, c3, c4, c5, c6, rfl⟩
  obtain ⟨y0, y1, y2, m, hx, _, t0, t1, t2⟩ := trod_struct3 Tryz.underlying57 hf
  obtain ⟨k, e0, f0, g0⟩ := DataW.trod_int Tryz.underlying3 t0
  simp [cells3] at e0
  subst e0
  simp only [cells33v] at t1 t2
  obtain ⟨a1, a2, a3, e1, g1⟩ := elem_val (by simp) t1
  obtain ⟨b1, b2, b3, e2, g2⟩ := elem_val (by simp) t2
  simp at e1 e2
  obtain ⟨rfl, rfl, rfl⟩ := e1
  obtain ⟨rfl, rfl, rfl⟩ := e2
  refine ⟨(k, (a1, a2, a3), (b1, b2, b3)), fun j hj => ?_, ?_⟩
  · rcases lt7 hj with rfl | rfl | rfl | rfl | rfl | rfl | rfl <;> rfl
  · have := bounds_i64 g1
    exact ⟨this.1, this.2⟩
set_option maxRecDepth 100000 in
theorem open_case {H : Type} {enc : TypeId × Value → H} {W : World} {base b0 : Nat} {held : Bool} {r : Reach} {v : Value} {d : DataW H} {ps : List MemPlace}
    (hval : Value.okWide Tryz.prog W r b0 54 v) (hd : DataW.Trod enc Tryz.prog W base (fun _ => true) held 54 v d ps) :
    ∃ (x y : Int) (a : Option Addr) (L cap : Nat) (Q : Nat → Int × V × V), v = cw x y (.slice a L cap) ∧ L ≤ cap ∧ Ops W.heap.size W a L Q := by
  obtain ⟨cs, rfl, h2⟩ := okWide_struct Tryz.underlying54 hval
  rw [cells24] at h2
  obtain ⟨ll⟩ := cs
  obtain ⟨c0, c1, c2, rfl⟩ : ∃ c0 c1 c2, ll = [c0, c1, c2] := by
    match ll, h2 with
    | [c0, c1, c2], _ => exact ⟨c0, c1, c2, rfl⟩
  obtain ⟨fuel, hf⟩ := hd
  obtain ⟨y0, y1, y2, m, hx, _, t0, t1, t3⟩ := trod_struct3 Tryz.underlying54 hf
  obtain ⟨x, e1, f1, g1⟩ := DataW.trod_int Tryz.underlying3 t0
  obtain ⟨y, e2, f2, g2⟩ := DataW.trod_int Tryz.underlying3 t1
  simp [Value.cells, cells3] at e1 e2
  subst e1 e2
  rw [cells22] at t3
  rcases open_slice Tryz.underlying52 t3 with ⟨h0, _⟩ | ⟨a, len, cap, m, n, D, Pl, h0, hb, hl, hm, hmm, hx, he⟩
  · simp [Value.cells] at h0
    subst h0
    exact ⟨x, y, none, 0, 0, fun _ => (0, nil, nil), rfl, Nat.le_refl _, fun i hi => absurd hi (Nat.not_lt_zero _), fun h => absurd h (Nat.lt_irrefl _)⟩
  · simp only [if_true] at hmm
    subst hmm
    simp [Value.cells] at h0
    subst h0
    have each : ∀ i, i < m → ∃ q : Int × V × V, (∀ j, j < 7 → W.cell? (a.add (i * 7 + j)) = some (oc q j)) ∧ Rng q.2.1 := by
      intro i hi
      obtain ⟨cs', h1, h2⟩ := he i hi
      rw [cells35] at h1
      obtain ⟨_, hlen, hcell⟩ := World.cells?_some h1
      obtain ⟨q, hq, hr⟩ := elem_op hlen h2
      refine ⟨q, fun j hj => ?_, hr⟩
      have := hcell j (by omega)
      rw [Addr.add_add] at this
      rw [this]
      exact hq j hj
    obtain ⟨Q, hQ⟩ : ∃ Q : Nat → Int × V × V, ∀ i, i < m → (∀ j, j < 7 → W.cell? (a.add (i * 7 + j)) = some (oc (Q i) j)) ∧ Rng (Q i).2.1 :=
      ⟨fun i => if h : i < m then (each i h).choose else (0, nil, nil), fun i hi => by
        simp only [dif_pos hi]
        exact (each i hi).choose_spec⟩
    refine ⟨x, y, some a, len, m, Q, rfl, hl, fun i hi => (hQ i (by omega)).2, fun h0 => ?_⟩
    have hc0 := (hQ 0 (by omega)).1 0 (by omega)
    have ha : a.add (0 * 7 + 0) = a := rfl
    rw [ha] at hc0
    obtain ⟨b, off, spot⟩ := a
    have hs : spot = none := by
      cases spot with
      | none => rfl
      | some q => unfold World.cell? at hc0; split at hc0 <;> simp at hc0
    subst hs
    have hadd : ∀ i, (Addr.add ⟨b, off, none⟩ i) = ⟨b, off + i, none⟩ := fun i => by
      by_cases hj0 : i = 0
      · subst hj0; rfl
      · simp [Addr.add, hj0]
    refine ⟨b, off, rfl, World.block_lt_of_cell? W _ hc0, fun i hi j hj => ?_⟩
    have := (hQ i (by omega)).1 j hj
    rw [hadd, ← Nat.add_assoc] at this
    exact this
end Go.Proofs.YtoomlihccniooaaGreat.Q

/- The walk of begin: both tables, of small sizes. -/
namespace Go.Proofs.YtoomlihccniooaaGreat.Q
open Go.RowKit

/-- A size that is played. -/
def sz (x : Int) : Int := IntKind.u64.wrap x % 200
theorem sz_ok (x : Int) : 0 ≤ sz x ∧ sz x < 200 := by unfold sz; rw [IntKind.wrap_u64]; omega
theorem ne_small {x y : Int} (hx : 0 ≤ x ∧ x < 200) (hy : 0 ≤ y ∧ y < 200) : nE (H.newSt 400000) x y = 0 := by
  have iv := H.Inv.new 400000 (by omega) (by omega)
  have h4 : H.takeE (H.newSt 400000) 4 = 0 := by kernel_rfl
  obtain ⟨a1, a2, a3, a4⟩ := blk_take iv h4
  have hp : inP x ∧ inP y := ⟨⟨by omega, by omega⟩, ⟨by omega, by omega⟩⟩
  rw [(nE_rest hp h4).1]
  have l0 : (H.newSt 400000).live = 0 := rfl
  have m0 : (H.newSt 400000).lim = 400000 := rfl
  have hz : C.up2 y ≤ 1024 ∧ 0 ≤ C.up2 y := by
    refine ⟨up2_le y hy.1 (by omega), ?_⟩
    rcases C.up2_facts y (by omega) (by omega) with ⟨q1, q2⟩ | ⟨q1, q2, q3, _⟩ <;> omega
  have e1 : H.takeE (H.takeSt (H.newSt 400000) 4) x = 0 := take0 (by omega) (by rw [a2, a3]; omega)
  obtain ⟨c1, c2, c3, c4⟩ := blk_take (iv.take 4) e1
  have e2 : H.takeE (H.takeSt (H.takeSt (H.newSt 400000) 4) x) (3 * C.up2 y) = 0 := take0 (by omega) (by rw [c2, c3, a2, a3]; omega)
  unfold tpE
  rw [if_neg (fun q => q e1)]
  exact e2
/-- A table at the beginning. -/
structure St0 (t : TS) (s : H.St) : Prop where
  n : t.p.n ≤ 2048
  z : t.p.z ≤ 4096
  pr : pres t.p = []
  hint : t.hint = 0
  tb : TB t s 4
  lim : s.lim = 400000
theorem Okn.st0 {x y : Int} (hx : 0 ≤ x ∧ x < 200) (hy : 0 ≤ y ∧ y < 200) {n z : Nat} (o : Okn (H.newSt 400000) x y n z) {t : TS} (et : t = newT n z t.sb t.nb) (e1 : t.sb = H.takeId (H.takeSt (H.newSt 400000) 4) (n : Nat)) (e2 : t.nb = H.takeId (H.takeSt (H.takeSt (H.newSt 400000) 4) (n : Nat)) (3 * (z : Nat))) :
    St0 t (nS (H.newSt 400000) x y) := by
  have iv := H.Inv.new 400000 (by omega) (by omega)
  have tb := o.tb iv et e1 e2
  have hxn := o.ex
  obtain ⟨m, hm, hm2, hz⟩ := o.hy
  have hzz : z ≤ 4096 := by
    rcases C.up2_facts (m : Nat) (by omega) (by omega) with ⟨q1, q2⟩ | ⟨q1, q2, q3, _⟩ <;> omega
  have en : t.p.n = n := by rw [et]; rfl
  have ez : t.p.z = z := by rw [et]; rfl
  refine ⟨by omega, by omega, ?_, by rw [et]; rfl, tb, ?_⟩
  · rw [et]
    show pres (fresh n z) = []
    have h1 : ∀ m, kA (fresh n z).F m = [] := fun m => by
      induction m with
      | zero => rfl
      | succ m ih => rw [kA, ih]; rfl
    have h2 : ∀ m, kH (fresh n z).g m = [] := fun m => by
      induction m with
      | zero => rfl
      | succ m ih => rw [kH, ih]; rfl
    unfold pres
    rw [h1, h2]; rfl
  · rw [o.es]
    rw [(blk_take ((iv.take 4).take (n : Nat)) o.e3).2.2.1, (blk_take (iv.take 4) o.e2).2.2.1, (blk_take iv o.e1).2.2.1]
    rfl
set_option maxRecDepth 20000 in
set_option maxHeartbeats 4000000 in
theorem begin_any (x y : Int) (v : Value) (w : World) :
    Calls Tryz.prog 21 #[cw x y v] w fun e w' => ∃ T A b a S hb RT t s, e = .returned (.tuple #[tp T, tp RT, .bool true]) ∧ TT (fun g => g < w.heap.size) w' T A b a S hb 3 t s ∧ Below w.heap.size w w' ∧ St0 t s ∧ t = newT t.p.n t.p.z t.sb t.nb ∧ s = nS (H.newSt 400000) (sz x) (sz y) ∧ Okn (H.newSt 400000) (sz x) (sz y) t.p.n t.p.z ∧ t.sb = H.takeId (H.takeSt (H.newSt 400000) 4) (t.p.n : Nat) ∧ t.nb = H.takeId (H.takeSt (H.takeSt (H.newSt 400000) 4) (t.p.n : Nat)) (3 * (t.p.z : Nat)) := by
  have hx := sz_ok x
  have hy := sz_ok y
  have he := ne_small hx hy
  have iv := H.Inv.new 400000 (by omega) (by omega)
  have C1 := fun W => H.new_walk W 400000 (by omega) (by omega)
  have B0 := b1 w (.cells #[.int .i64 x, .int .i64 y, v] 54)
  have c0 : (w.alloc (.cells #[.int .i64 x, .int .i64 y, v] 54)).heap[w.heap.size]? = some (.cells #[.int .i64 x, .int .i64 y, v] 54) := (MapKept.heap_alloc w _).1
  obtain ⟨W0, hW0⟩ : ∃ W0, w.alloc (.cells #[.int .i64 x, .int .i64 y, v] 54) = W0 := ⟨_, rfl⟩
  rw [hW0] at B0 c0
  have x1 : W0.cell? ⟨w.heap.size, 0, none⟩ = some (.int .i64 x) := cell_of_row c0 0
  have x2 : W0.cell? ⟨w.heap.size, 1, none⟩ = some (.int .i64 y) := cell_of_row c0 1
  obtain ⟨W0', hW0'⟩ : ∃ W, W0.drew = W := ⟨_, rfl⟩
  have B0' : Below w.heap.size w W0' := by rw [← hW0']; exact bthen B0 B0.size (bdrew1 W0)
  have hp := new_hp W0' 400000 (fun g => g < W0'.heap.size) (fun g q => q)
  have B1 := b2 W0' (.map #[] 0) (.cells #[.int .i64 400000, .int .i64 0, .int .i64 0, .slice none 0 0, .map (some W0'.heap.size)] 109)
  have C1' := C1 W0'
  obtain ⟨W1, hW1⟩ : ∃ W1, (W0'.alloc (.map #[] 0)).alloc (.cells #[.int .i64 400000, .int .i64 0, .int .i64 0, .slice none 0 0, .map (some W0'.heap.size)] 109) = W1 := ⟨_, rfl⟩
  rw [hW1] at hp B1 C1'
  obtain ⟨n', z, hok⟩ := okn he
  have C2 := hok.new hp (by omega) iv
  have HB1 : Hid (Below w.heap.size w W1) := bthen B0' B0'.size B1
  have HBs : Hid (w.heap.size ≤ W0'.heap.size ∧ W0'.heap.size ≤ W1.heap.size) := ⟨B0'.size, B1.size⟩
  have HC3 : Hid (∀ W : World, RH (fun g => g < W.heap.size) (W.alloc (.cells #[.int .i64 400000, .int .i64 0, .int .i64 0, .slice none 0 0] 78)) W.heap.size 0 (H.newSt 400000)) := fun W => new_rh W 400000 _ (fun g q => q)
  have HOK : Hid (Okn (H.newSt 400000) (sz x) (sz y) n' z) := hok
  have HIv : Hid (H.Inv 0 (H.newSt 400000)) := iv
  have HXY : Hid ((0 ≤ sz x ∧ sz x < 200) ∧ (0 ≤ sz y ∧ sz y < 200)) := ⟨hx, hy⟩
  have y1 : W0'.cell? ⟨w.heap.size, 0, none⟩ = some (.int .i64 x) := by rw [← hW0']; exact x1
  have y2 : W0'.cell? ⟨w.heap.size, 1, none⟩ = some (.int .i64 y) := by rw [← hW0']; exact x2
  have hw1 : wrap64 ((IntKind.u64.wrap x).tmod 200) = sz x := by
    have : 0 ≤ IntKind.u64.wrap x := by rw [IntKind.wrap_u64]; omega
    unfold sz at *; rw [Int.tmod_eq_emod_of_nonneg this]; unfold wrap64; omega
  have hw2 : wrap64 ((IntKind.u64.wrap y).tmod 200) = sz y := by
    have : 0 ≤ IntKind.u64.wrap y := by rw [IntKind.wrap_u64]; omega
    unfold sz at *; rw [Int.tmod_eq_emod_of_nonneg this]; unfold wrap64; omega
  have HT : Hid (∀ W T A b a t s, TT (fun g => g < W0'.heap.size) W T A b a (W0'.heap.size + 1) W0'.heap.size 3 t s → Keep (fun g => g < W0'.heap.size) W1 W → ∀ W', Keep (fun g => g < W.heap.size) W W' → TT (fun g => g < w.heap.size) W' T A b a (W0'.heap.size + 1) W0'.heap.size 3 t s ∧ Below w.heap.size w W') := fun W T A b a t s q k W' k' => by
    refine ⟨(q.frame2 k'.os k'.tape k'.output k'.size (fun g hg _ => k'.block g hg hg)).sub (fun g hg => .inl (Nat.lt_of_lt_of_le hg HBs.out.1)), ?_⟩
    have hb := HB1.out.trans (k.below HB1.out.size (fun g hg => Nat.lt_of_lt_of_le hg HBs.out.1))
    exact hb.trans (k'.below hb.size (fun g hg => Nat.lt_of_lt_of_le hg hb.size))
  clear B0 B0' B1 c0 C1 hp iv hx hy he hok
  unfold cw tp
  go_enter Tryz.func21, Tryz.ntmps21
  go_upto_region 1 with fail
  go_cut [5, 6] from 13 to 22 (fun p q wx => p = .int .i64 (sz x) ∧ q = .int .i64 (sz y) ∧ wx = W0')
  case first =>
    go_region
    all_goals
      go_wp2_with fail
      go_meet
      exact ⟨by rw [hw1], by rw [hw2], rfl⟩
  case rest =>
    obtain ⟨rfl, rfl, hwc⟩ := hcut
    subst hwc
    clear hW0'
    go_wp2_with fail
    refine C1'.mono ?_; rintro e w1 ⟨rfl, hw1⟩; rw [hw1]; clear hw1 C1'
    go_wp2_with fail
    refine C2.mono ?_; rintro e W2 ⟨T, A, b, a', rfl, tt2, kk2⟩
    have B3 := b1 W2 (.cells #[.int .i64 400000, .int .i64 0, .int .i64 0, .slice none 0 0] 78)
    have rh := HC3.out W2
    have HT2 : Hid _ := And.intro tt2 kk2
    obtain ⟨W3, hW3⟩ : ∃ W3, W2.alloc (.cells #[.int .i64 400000, .int .i64 0, .int .i64 0, .slice none 0 0] 78) = W3 := ⟨_, rfl⟩
    rw [hW3] at B3 rh
    have C4 := HOK.out.rnew rh (by omega) HIv.out
    have HB3 : Hid (Below W2.heap.size W2 W3) := B3
    clear C2 tt2 kk2 B3 rh
    go_wp2_with fail
    refine C4.mono ?_; rintro e W4 ⟨RT, RA, P, ka, va, ca, rfl, rh4, kk4, nr4⟩
    have HF : Hid _ := HT.out _ _ _ _ _ _ _ HT2.out.1 HT2.out.2 W4 ((Keep.of HB3.out).trans kk4)
    clear C4 rh4 kk4 nr4
    go_wp2_with fail
    refine bodyPost_ret (v := .tuple #[.pointer (some ⟨T, 0, none⟩), .pointer (some ⟨RT, 0, none⟩), .bool true]) (by simp [results, Tryz.results21, go_sem]) rfl ⟨T, A, b, a', _, _, RT, _, _, rfl, HF.out.1, HF.out.2, ?_⟩
    exact ⟨Okn.st0 HXY.out.1 HXY.out.2 HOK.out rfl rfl rfl, rfl, rfl, HOK.out, rfl, rfl⟩
end Go.Proofs.YtoomlihccniooaaGreat.Q
