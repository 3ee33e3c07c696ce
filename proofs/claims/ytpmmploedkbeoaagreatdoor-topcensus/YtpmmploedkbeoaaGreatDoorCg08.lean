/- Two parts of the program's in memory; the walks of slot, number and set. -/
import Derived.Test.YtpmmploedkbeoaaGreatDoorCg07
import Derived.Test.YtpmmploedkbeoaaGreatDoorCg01
import Derived.Deep.QuietTactic
import Derived.BigQuiet
namespace Go.Proofs.YtpmmploedkbeoaaGreatDoor
open Go.RowKit
theorem wp_still_d {P : Program} {id : Nat} {Q : Exit → Act → World → Prop} {a : Act} {w : World} {l : List Oper} (hm : P.follows .mixedOrders = true) (hB : Region.lexB .any l.toArray = true)
    (h : wpStill P l.toArray w.drew (fun a' => Q .normal a' w.drew) l a) : (Code.region id l.toArray true).wp P Q a w := wp_region_still_lit hm hB h

abbrev vv (k : V) : Value := vl k.1 k.2.1 k.2.2
theorem Rv.set {w : World} {A n : Nat} {F : Nat → V} (h : Rv w A n F) {i : Nat} (hi : i < n) (x : V) :
    Rv (((w.setCell ⟨A, i * 3, none⟩ (.int .i64 x.1)).setCell ⟨A, i * 3 + 1, none⟩ (.int .i64 x.2.1)).setCell ⟨A, i * 3 + 2, none⟩ (.string x.2.2)) A n (upd F i x) := ⟨fun j hj t ht => by
  have h0 := h.c j hj t ht
  have z0 := h.c i hi 0 (by omega)
  have z1 := h.c i hi 1 (by omega)
  have z2 := h.c i hi 2 (by omega)
  by_cases e : j = i
  · subst e
    rw [upd_at]
    rcases lt3 ht with rfl | rfl | rfl
    · rw [World.cell?_setCell_other _ _ _ _ (fun q => by injection q with _ q2; omega), World.cell?_setCell_other _ _ _ _ (fun q => by injection q with _ q2; omega)]
      exact World.cell?_setCell_same _ _ _ z0
    · rw [World.cell?_setCell_other _ _ _ _ (fun q => by injection q with _ q2; omega)]
      refine World.cell?_setCell_same _ _ _ (u := vc (F j) 1) ?_
      rw [World.cell?_setCell_other _ _ _ _ (fun q => by injection q with _ q2; omega)]
      exact z1
    · refine World.cell?_setCell_same _ _ _ (u := vc (F j) 2) ?_
      rw [World.cell?_setCell_other _ _ _ _ (fun q => by injection q with _ q2; omega), World.cell?_setCell_other _ _ _ _ (fun q => by injection q with _ q2; omega)]
      exact z2
  · rw [upd_ne _ _ e, World.cell?_setCell_other _ _ _ _ (fun q => by injection q with _ q2; omega), World.cell?_setCell_other _ _ _ _ (fun q => by injection q with _ q2; omega), World.cell?_setCell_other _ _ _ _ (fun q => by injection q with _ q2; omega)]
    exact h0⟩

/-- The struct of parts at offset o of block B, its slots in block A, its nodes' struct and row in blocks b and a. -/
structure Pm (w : World) (B o A b a : Nat) (p : Pa) (sb nb : Int) : Prop where
  c0 : w.cell? ⟨B, o, none⟩ = some (.slice (some ⟨A, 0, none⟩) p.n p.n)
  c1 : w.cell? ⟨B, o + 1, none⟩ = some (pp b)
  c2 : w.cell? ⟨B, o + 2, none⟩ = some (.int .i64 sb)
  c3 : w.cell? ⟨B, o + 3, none⟩ = some (.int .i64 nb)
  sl : Rv w A p.n p.F
  fA : ∀ j, w.frozen? ⟨A, j, none⟩ = false
  ltA : A < w.heap.size
  ltB : B < w.heap.size
  pt : Pt w b a p.z p.g
  nAB : A ≠ B
  nAb : A ≠ b
  nAa : A ≠ a
  nBb : B ≠ b
  nBa : B ≠ a
section
variable {w w' : World} {B o A b a : Nat} {p : Pa} {sb nb : Int}
theorem Pm.kept {No : Nat → Prop} (h : Pm w B o A b a p sb nb) (k : Keep No w w') (hB : No B) (hA : No A) (hb : No b) (ha : No a) : Pm w' B o A b a p sb nb := by
  have eB := k.block B h.ltB hB
  have eA := k.block A h.ltA hA
  exact ⟨by rw [World.cell?_of_block (w := w) eB]; exact h.c0, by rw [World.cell?_of_block (w := w) eB]; exact h.c1, by rw [World.cell?_of_block (w := w) eB]; exact h.c2, by rw [World.cell?_of_block (w := w) eB]; exact h.c3,
    h.sl.block eA, fun j => by rw [World.frozen?_of_block (w := w) eA]; exact h.fA j, Nat.lt_of_lt_of_le h.ltA k.size, Nat.lt_of_lt_of_le h.ltB k.size, h.pt.kept k hb ha, h.nAB, h.nAb, h.nAa, h.nBb, h.nBa⟩
theorem Pm.below (h : Pm w B o A b a p sb nb) (k : Below w.heap.size w w') : Pm w' B o A b a p sb nb := h.kept (No := fun _ => True) (Keep.of k) trivial trivial trivial trivial
theorem Pm.setS (h : Pm w B o A b a p sb nb) {i : Nat} (hi : i < p.n) (x : V) :
    Pm (((w.setCell ⟨A, i * 3, none⟩ (.int .i64 x.1)).setCell ⟨A, i * 3 + 1, none⟩ (.int .i64 x.2.1)).setCell ⟨A, i * 3 + 2, none⟩ (.string x.2.2)) B o A b a { p with F := upd p.F i x } sb nb ∧
    Keep (fun x => x ≠ A ∧ x ≠ a ∧ x ≠ b) w (((w.setCell ⟨A, i * 3, none⟩ (.int .i64 x.1)).setCell ⟨A, i * 3 + 1, none⟩ (.int .i64 x.2.1)).setCell ⟨A, i * 3 + 2, none⟩ (.string x.2.2)) := by
  have k : Keep (fun x => x ≠ A) w (((w.setCell ⟨A, i * 3, none⟩ (.int .i64 x.1)).setCell ⟨A, i * 3 + 1, none⟩ (.int .i64 x.2.1)).setCell ⟨A, i * 3 + 2, none⟩ (.string x.2.2)) :=
    (((Keep.refl _ w).set (p := ⟨A, i * 3, none⟩) (fun q => q rfl) _).set (p := ⟨A, i * 3 + 1, none⟩) (fun q => q rfl) _).set (p := ⟨A, i * 3 + 2, none⟩) (fun q => q rfl) _
  have eB := k.block B h.ltB (fun e => h.nAB e.symm)
  refine ⟨⟨by rw [World.cell?_of_block (w := w) eB]; exact h.c0, by rw [World.cell?_of_block (w := w) eB]; exact h.c1, by rw [World.cell?_of_block (w := w) eB]; exact h.c2, by rw [World.cell?_of_block (w := w) eB]; exact h.c3,
    h.sl.set hi x, fun j => by simpa using h.fA j, Nat.lt_of_lt_of_le h.ltA k.size, Nat.lt_of_lt_of_le h.ltB k.size, h.pt.kept k (fun e => h.nAb e.symm) (fun e => h.nAa e.symm), h.nAB, h.nAb, h.nAa, h.nBb, h.nBa⟩, k.sub fun g q => q.1⟩
end

set_option maxRecDepth 20000 in
set_option maxHeartbeats 1000000 in
theorem number_any (n : Int) (w : World) : Calls Tryz.prog 147 #[.int .i64 n] w fun e w' => e = .returned (vl 2 n ⟨#[]⟩) ∧ Below w.heap.size w w' := by
  have hb0 := b1 w (vb 2 n ⟨#[]⟩)
  have HB : Hid _ := hb0
  clear hb0
  unfold vl vb at *
  go_enter Tryz.func147, Tryz.ntmps147
  go_wp2
  refine bodyPost_ret (v := .agg #[.int .i64 2, .int .i64 n, .string ⟨#[]⟩]) (by simp [results, Tryz.results147, go_sem]) rfl ⟨rfl, ?_⟩
  exact HB.out

def slotOf (n : Nat) (k : V) : Int := if inA n k then k.2.1 else 0
set_option maxRecDepth 20000 in
set_option maxHeartbeats 2000000 in
theorem slot_any {B o A b a : Nat} {p : Pa} {sb nb : Int} (k : V) (w : World) (h : Pm w B o A b a p sb nb) :
    Calls Tryz.prog 65 #[.pointer (some ⟨B, o, none⟩), vv k] w fun e w' => e = .returned (.int .i64 (slotOf p.n k)) ∧ Below w.heap.size w w' := by
  have c0 := h.c0
  have c0' : (w.alloc (vb k.1 k.2.1 k.2.2)).cell? ⟨B, o, none⟩ = some (.slice (some ⟨A, 0, none⟩) p.n p.n) := by
    rw [World.cell?_of_block (w := w) (Below.heap_alloc _ _ _ h.ltB)]; exact c0
  have HE : Hid (slotOf p.n k = if k.1 = 2 ∧ k.2.2.toList = [] ∧ 1 ≤ k.2.1 ∧ k.2.1 ≤ (p.n : Int) then k.2.1 else 0) := by
    show _ = _
    unfold slotOf inA
    have : k.2.2 = ⟨#[]⟩ ↔ k.2.2.toList = [] := by rw [← bytes_iff]; simp [ByteArray.toList_eq]
    simp only [this]
  clear h c0
  generalize p.n = n at *
  obtain ⟨k0, k1, k2⟩ := k
  unfold vv vl
  unfold vb at *
  simp only at *
  have HB : Hid _ := b1 w (.cells #[.int .i64 k0, .int .i64 k1, .string k2] 37)
  by_cases h1 : k0 = 2
  · subst h1
    by_cases h2 : k2.toList = []
    · by_cases h3 : k1 < 1
      · clear c0'
        have g2 : (k2.toList != []) = false := by simp [h2]
        have g3 : decide (k1 < 1) = true := by simp [h3]
        have E : Hid (slotOf n (2, k1, k2) = 0) := HE.out.trans (if_neg (by omega))
        clear HE
        go_enter Tryz.func65, Tryz.ntmps65
        go_wp2_with fail
        go_quiet (fail)
        go_wp2_with fail
        go_ret
        rw [E.out]
        exact ⟨rfl, bthen HB.out (by simp) (bdrew _ _ _)⟩
      · by_cases h4 : (n : Int) < k1
        · have h5 := h4
          have g2 : (k2.toList != []) = false := by simp [h2]
          have g3 : decide (k1 < 1) = false := by simp [h3]
          have g4 : decide ((n : Int) < k1) = true := by simp [h4]
          have E : Hid (slotOf n (2, k1, k2) = 0) := HE.out.trans (if_neg (by omega))
          clear HE
          go_enter Tryz.func65, Tryz.ntmps65
          go_wp2_with fail
          refine wp_still_d (by kernel_rfl) (by kernel_rfl) ?_
          repeat still_step
          refine wpStill_nil ?_
          go_wp2_with fail
          go_ret
          rw [E.out]
          exact ⟨rfl, bthen HB.out (by simp) (bdrew1 _)⟩
        · have h5 : k1 ≤ (n : Int) := by omega
          have g2 : (k2.toList != []) = false := by simp [h2]
          have g3 : decide (k1 < 1) = false := by simp [h3]
          have g4 : decide ((n : Int) < k1) = false := by simp [h4]
          have E : Hid (slotOf n (2, k1, k2) = k1) := HE.out.trans (if_pos ⟨rfl, h2, by omega, by omega⟩)
          clear HE
          go_enter Tryz.func65, Tryz.ntmps65
          go_wp2_with fail
          refine wp_still_d (by kernel_rfl) (by kernel_rfl) ?_
          repeat still_step
          refine wpStill_nil ?_
          go_wp2_with fail
          go_ret
          rw [E.out]
          exact ⟨rfl, bthen HB.out (by simp) (bdrew1 _)⟩
    · clear c0'
      have g2 : (k2.toList != []) = true := by simp [h2]
      have E : Hid (slotOf n (2, k1, k2) = 0) := HE.out.trans (if_neg (fun q => h2 q.2.1))
      clear HE
      go_enter Tryz.func65, Tryz.ntmps65
      go_wp2_with fail
      go_quiet (fail)
      go_wp2_with fail
      go_ret
      rw [E.out]
      exact ⟨rfl, bthen HB.out (by simp) (bdrew _ _ _)⟩
  · clear c0'
    have g1 : (k0 != 2) = true := by simp [h1]
    have E : Hid (slotOf n (k0, k1, k2) = 0) := HE.out.trans (if_neg (fun q => h1 q.1))
    clear HE
    go_enter Tryz.func65, Tryz.ntmps65
    go_wp2_with fail
    go_quiet (fail)
    go_wp2_with fail
    go_ret
    rw [E.out]
    exact ⟨rfl, bthen HB.out (by simp) (bdrew _ _ _)⟩
end Go.Proofs.YtpmmploedkbeoaaGreatDoor

/- The walk of set: a slot or the hash part. -/
namespace Go.Proofs.YtpmmploedkbeoaaGreatDoor
open Go.RowKit

theorem slot_in {n : Nat} {k : V} (h : inA n k) : slotOf n k = ((ix k : Nat) : Int) + 1 ∧ ix k < n := by
  obtain ⟨h1, h2⟩ := inA_ix h
  refine ⟨?_, h1⟩
  unfold slotOf
  rw [if_pos h]
  have := h.2.2.1
  unfold ix; omega
theorem slot_out {n : Nat} {k : V} (h : ¬ inA n k) : slotOf n k = 0 := by unfold slotOf; rw [if_neg h]

theorem pm_put {w w' : World} {B o A b a : Nat} {p : Pa} {sb nb : Int} {g' : G} (h : Pm w B o A b a p sb nb) (hp : Pt w' b a p.z g') (hk : Keep (fun x => x ≠ a ∧ x ≠ b) w.drew w') : Pm w' B o A b a { p with g := g' } sb nb := by
  have k : Keep (fun x => x ≠ a ∧ x ≠ b) w w' := ((Keep.refl _ w).bel (bdrew1 _)).trans hk
  have eB := k.block B h.ltB ⟨h.nBa, h.nBb⟩
  have eA := k.block A h.ltA ⟨h.nAa, h.nAb⟩
  exact ⟨by rw [World.cell?_of_block (w := w) eB]; exact h.c0, by rw [World.cell?_of_block (w := w) eB]; exact h.c1, by rw [World.cell?_of_block (w := w) eB]; exact h.c2, by rw [World.cell?_of_block (w := w) eB]; exact h.c3,
    h.sl.block eA, fun j => by rw [World.frozen?_of_block (w := w) eA]; exact h.fA j, Nat.lt_of_lt_of_le h.ltA k.size, Nat.lt_of_lt_of_le h.ltB k.size, hp, h.nAB, h.nAb, h.nAa, h.nBb, h.nBa⟩

set_option maxRecDepth 20000 in
set_option maxHeartbeats 2000000 in
theorem set_any {B o A b a : Nat} {p : Pa} {sb nb : Int} (k v : V) (w : World) (h : Pm w B o A b a p sb nb) (hi : Inv p.z (pl p.z) KOK p.g) (hz : Rt p.z) (hr : Rng k) (hn : p.n ≤ 65536) :
    Calls Tryz.prog 68 #[.pointer (some ⟨B, o, none⟩), vv k, vv v] w fun e w' => e = .returned (.tuple #[.int .i64 ((pset p k v).2.1 : Nat), .int .i64 (pset p k v).2.2]) ∧ Pm w' B o A b a (pset p k v).1 sb nb ∧ Keep (fun x => x ≠ A ∧ x ≠ a ∧ x ≠ b) w w' := by
  by_cases hA : inA p.n k
  · have e : pset p k v = ({ p with F := upd p.F (ix k) v }, 0, 0) := by unfold pset; rw [if_pos hA]
    rw [e]
    obtain ⟨es, hix⟩ := slot_in hA
    have C := fun W (h' : Pm W B o A b a p sb nb) => slot_any k W h'
    rw [es] at C
    have HP : Hid (Pm w B o A b a p sb nb) := h
    generalize ix k = i at *
    unfold vv vl at C
    have X1 := (Bx.made w k).below (b1 _ (vb v.1 v.2.1 v.2.2))
    have X2 := Bx.made (w.alloc (vb k.1 k.2.1 k.2.2)) v
    have eX : (w.alloc (vb k.1 k.2.1 k.2.2)).heap.size = w.heap.size + 1 := by simp
    rw [eX] at X2
    have B0 := b2 w (vb k.1 k.2.1 k.2.2) (vb v.1 v.2.1 v.2.2)
    obtain ⟨W0, hW0⟩ : ∃ W0, (w.alloc (vb k.1 k.2.1 k.2.2)).alloc (vb v.1 v.2.1 v.2.2) = W0 := ⟨_, rfl⟩
    rw [hW0] at X1 X2 B0
    have C0 := C W0 (h.below B0)
    have d0 := X1.c0
    have d1 := X1.c1
    have d2 := X1.c2
    have HX1 : Hid (Bx W0 w.heap.size k) := X1
    have HX2 : Hid (Bx W0 (w.heap.size + 1) v) := X2
    have HB0 : Hid (Below w.heap.size w W0) := B0
    clear C X1 X2 B0 eX
    unfold vb at hW0
    generalize hsz : w.heap.size = N at *
    have hsz2 : (w.alloc (.cells #[.int .i64 k.1, .int .i64 k.2.1, .string k.2.2] 37)).heap.size = N + 1 := by rw [← hsz]; simp
    have HSZ : Hid (w.heap.size = N) := hsz
    clear h e hi hz hr hA es
    unfold vv vl
    have hi0 : ¬ ((i : Int) + 1 ≤ 0) := by omega
    go_enter Tryz.func68, Tryz.ntmps68
    go_wp2_with fail
    refine C0.mono ?_; rintro e W1 ⟨rfl, hb⟩
    have hb1 : Below N w W1 := bthen HB0.out (HSZ.out ▸ HB0.out.size) hb
    have Y2 := HX2.out.below hb
    have P1 := (HP.out.below (HSZ.out.symm ▸ hb1))
    have v0 := Y2.c0
    have v1 := Y2.c1
    have v2 := Y2.c2
    have c0 := P1.c0
    obtain ⟨PS, KS⟩ := P1.setS hix v
    have HPS : Hid _ := PS
    have HKS : Hid _ := KS
    have HB1 : Hid (Below N w W1) := hb1
    clear hb hb1 Y2 PS KS C0
    obtain ⟨a0, a1, a2⟩ := P1.sl.at hix
    have fz := P1.fA
    have HP1 : Hid (Pm W1 B o A b a p sb nb) := P1
    have hw : IntKind.i64.wrap ((i : Int) + 1 - 1) = i := by rw [IntKind.wrap_i64]; omega
    have hin : (i : Int) < (p.n : Int) := by omega
    have hi1 : ¬ ((i : Int) < 0) := by omega
    clear P1
    obtain ⟨W2, hW2⟩ : ∃ W2, ((W1.setCell ⟨A, i * 3, none⟩ (.int .i64 v.1)).setCell ⟨A, i * 3 + 1, none⟩ (.int .i64 v.2.1)).setCell ⟨A, i * 3 + 2, none⟩ (.string v.2.2) = W2 := ⟨_, rfl⟩
    rw [hW2] at HPS HKS
    go_wp2_with fail
    refine wp_tail 7 (by kernel_rfl) (by kernel_rfl) ?_
    simp only [List.take_succ_cons, List.take_zero, List.drop_succ_cons, List.drop_zero]
    repeat still_step
    refine wpStill_nil ?_
    go_wp2_with fail
    go_ret2
    exact ⟨rfl, HPS.out.below (bdrew1 _), ((Keep.of (HSZ.out.symm ▸ HB1.out)).trans HKS.out).bel (bdrew1 _)⟩
  · have e : pset p k v = ({ p with g := (put p.z p.g k v).1 }, (put p.z p.g k v).2.1, (put p.z p.g k v).2.2) := by unfold pset; rw [if_neg hA]
    rw [e]
    have es := slot_out hA
    have C := fun W (h' : Pm W B o A b a p sb nb) => slot_any k W h'
    rw [es] at C
    have CP := fun W (h' : Pt W b a p.z p.g) => put_all k v W h' hi hz hr
    have HP : Hid (Pm w B o A b a p sb nb) := h
    unfold vv vl at C
    have X1 := (Bx.made w k).below (b1 _ (vb v.1 v.2.1 v.2.2))
    have X2 := Bx.made (w.alloc (vb k.1 k.2.1 k.2.2)) v
    have eX : (w.alloc (vb k.1 k.2.1 k.2.2)).heap.size = w.heap.size + 1 := by simp
    rw [eX] at X2
    have B0 := b2 w (vb k.1 k.2.1 k.2.2) (vb v.1 v.2.1 v.2.2)
    obtain ⟨W0, hW0⟩ : ∃ W0, (w.alloc (vb k.1 k.2.1 k.2.2)).alloc (vb v.1 v.2.1 v.2.2) = W0 := ⟨_, rfl⟩
    rw [hW0] at X1 X2 B0
    have C0 := C W0 (h.below B0)
    have d0 := X1.c0
    have d1 := X1.c1
    have d2 := X1.c2
    have HX1 : Hid (Bx W0 w.heap.size k) := X1
    have HX2 : Hid (Bx W0 (w.heap.size + 1) v) := X2
    have HB0 : Hid (Below w.heap.size w W0) := B0
    clear C X1 X2 B0 eX
    unfold vb at hW0
    generalize hsz : w.heap.size = N at *
    have hsz2 : (w.alloc (.cells #[.int .i64 k.1, .int .i64 k.2.1, .string k.2.2] 37)).heap.size = N + 1 := by rw [← hsz]; simp
    have HSZ : Hid (w.heap.size = N) := hsz
    clear h e hi hz hr hA es
    unfold vv vl
    unfold vl pp at CP
    go_enter Tryz.func68, Tryz.ntmps68
    go_wp2_with fail
    refine C0.mono ?_; rintro e W1 ⟨rfl, hb⟩
    have hb1 : Below N w W1 := bthen HB0.out (HSZ.out ▸ HB0.out.size) hb
    have Y1 := HX1.out.below hb
    have Y2 := HX2.out.below hb
    have P1 := (HP.out.below (HSZ.out.symm ▸ hb1))
    have q0 := Y1.c0
    have q1 := Y1.c1
    have q2 := Y1.c2
    have v0 := Y2.c0
    have v1 := Y2.c1
    have v2 := Y2.c2
    have c1 := P1.c1
    have CP1 := CP W1.drew (P1.pt.below (bdrew1 _))
    have HP1 : Hid (Pm W1 B o A b a p sb nb) := P1
    have HB1 : Hid (Below N w W1) := hb1
    clear hb hb1 Y1 Y2 C0 CP P1
    unfold pp at c1
    go_wp2_with fail
    go_region_with (go_at_call 104; refine CP1.mono ?_; rintro e W2 ⟨rfl, P2, K2⟩; have HP2 : Hid _ := P2; have HK2 : Hid _ := K2; clear P2 K2)
    all_goals (
      go_wp2_with fail
      go_ret2
      exact ⟨rfl, pm_put HP1.out HP2.out HK2.out, ((Keep.of (HSZ.out.symm ▸ HB1.out)).bel (bdrew1 _)).trans (HK2.out.sub fun g q => q.2)⟩)
end Go.Proofs.YtpmmploedkbeoaaGreatDoor

/- The walk of do: one operation, and what is to be seen behind it. -/
namespace Go.Proofs.YtpmmploedkbeoaaGreatDoor.H
open Go.RowKit

theorem Inv.le_live {sp : Int} {s : St} (h : Inv sp s) (k : Nat) (hk : k < s.bl.length) (ht : (s.bl[k]'hk).2 = true) : (s.bl[k]'hk).1 ≤ s.live := by
  have := tk_mem s.bl (fun k hk => by have := h.cells k hk; omega) k hk ht
  have := h.live
  have := h.sp0
  omega
theorem give_any {No : Nat → Prop} {w : World} {S b c : Nat} {vb : Value} {s : St} {sp : Int} (h : Hp No w S b c vb s) (hc : c ≤ 1000000) (iv : Inv sp s) (id : Int) :
    Calls Tryz.prog 101 #[.pointer (some ⟨S, 0, none⟩), .int .i64 id] w fun e w' => e = .returned (.int .i64 (giveE s id)) ∧ (∃ v', Hp No w' S b (c + 1) v' (giveSt s id)) ∧ Keep No w w' := by
  by_cases hg : Given s id
  · obtain ⟨k, rfl⟩ : ∃ k : Nat, id = (k : Int) + 1 := ⟨id.toNat - 1, by have := hg.1; omega⟩
    have hk : k < s.bl.length := by have := hg.2.1; omega
    have ht : (s.bl[k]'hk).2 = true := by
      have := hg.2.2
      rwa [show ((k : Int) + 1).toNat - 1 = k by omega, List.getD, List.getElem?_eq_getElem hk] at this
    rw [(give_at hk ht).1]
    exact give_good h hc iv.ok k hk ht (iv.le_live k hk ht)
  · have e : giveSt s id = s := by unfold giveSt; rw [if_neg hg]
    rw [e]
    refine (give_bad h hc id hg).mono ?_
    rintro e w' ⟨rfl, rfl⟩
    exact ⟨rfl, ⟨_, h.more (Nat.le_succ _)⟩, Keep.refl _ _⟩

/-- One operation: the state behind it, its number, its error. -/
def opSt (s : St) (k n : Int) : St := if k = 1 then takeSt s n else if k = 2 then giveSt s n else spendSt s n
def opId (s : St) (k n : Int) : Int := if k = 1 then takeId s n else 0
def opE (s : St) (k n : Int) : Int := if k = 2 then giveE s n else takeE s n
def opSp (sp : Int) (s : St) (k n : Int) : Int := if k = 3 then (if takeE s n = 0 then sp + n else sp) else sp
theorem Inv.op {sp : Int} {s : St} (h : Inv sp s) (k n : Int) (hk : 1 ≤ k ∧ k ≤ 3) : Inv (opSp sp s k n) (opSt s k n) := by
  unfold opSp opSt
  by_cases h1 : k = 1
  · rw [if_pos h1, if_neg (by omega)]; exact h.take n
  · by_cases h2 : k = 2
    · rw [if_neg h1, if_pos h2, if_neg (by omega)]; exact h.give n
    · rw [if_neg h1, if_neg h2, if_pos (by omega)]; exact h.spend n

/-- Blocks that were just made are none of the heap's: three of them. -/
theorem Hp.made3 {No : Nat → Prop} {w : World} {S b c : Nat} {vb : Value} {s : St} (h : Hp No w S b c vb s) (o1 o2 o3 : Obj) : Hp (fun g => No g ∨ (w.heap.size ≤ g ∧ g < w.heap.size + 3)) (((w.alloc o1).alloc o2).alloc o3) S b c vb s := by
  refine (((h.made o1).made o2).made o3).reno (fun g q => .inl ?_)
  rcases q with q | ⟨q1, q2⟩
  · exact .inl (.inl (.inl q))
  · have e1 : (w.alloc o1).heap.size = w.heap.size + 1 := by simp
    have e2 : ((w.alloc o1).alloc o2).heap.size = w.heap.size + 2 := by simp
    rw [e1, e2]
    by_cases hg : g = w.heap.size
    · exact .inl (.inl (.inr hg))
    · by_cases hg2 : g = w.heap.size + 1
      · exact .inl (.inr hg2)
      · exact .inr (by omega)
theorem made3_cell (w : World) (c1 c2 c3 : Array Value) (t1 t2 t3 : TypeId) : (((w.alloc (.cells c1 t1)).alloc (.cells c2 t2)).alloc (.cells c3 t3)).heap[w.heap.size]? = some (.cells c1 t1) ∧
    (((w.alloc (.cells c1 t1)).alloc (.cells c2 t2)).alloc (.cells c3 t3)).heap[w.heap.size + 1]? = some (.cells c2 t2) ∧ (((w.alloc (.cells c1 t1)).alloc (.cells c2 t2)).alloc (.cells c3 t3)).heap[w.heap.size + 2]? = some (.cells c3 t3) := by
  have e1 : (w.alloc (.cells c1 t1)).heap.size = w.heap.size + 1 := by simp
  have e2 : ((w.alloc (.cells c1 t1)).alloc (.cells c2 t2)).heap.size = w.heap.size + 2 := by simp
  have a1 := heap_alloc_new w (.cells c1 t1)
  have a2 := heap_alloc_new (w.alloc (.cells c1 t1)) (.cells c2 t2)
  have a3 := heap_alloc_new ((w.alloc (.cells c1 t1)).alloc (.cells c2 t2)) (.cells c3 t3)
  rw [e1] at a2
  rw [e2] at a3
  refine ⟨?_, ?_, a3⟩
  · rw [(World.grownBy_alloc _ _ none).block _ (by rw [e2]; omega) (by simp), (World.grownBy_alloc _ _ none).block _ (by rw [e1]; omega) (by simp)]; exact a1
  · rw [(World.grownBy_alloc _ _ none).block _ (by rw [e2]; omega) (by simp)]; exact a2

theorem Hp.sets {No : Nat → Prop} {w : World} {S b c : Nat} {vb : Value} {s : St} (h : Hp No w S b c vb s) (g i : Nat) (v : Value) (hn : No g) : Hp No (w.setCell ⟨g, i, none⟩ v) S b c vb s := h.keeps (gset w g i v) hn
theorem Keep.sets {No : Nat → Prop} {w w1 : World} (h : Keep No w w1) (g i : Nat) (v : Value) (hn : ¬ No g) : Keep No w (w1.setCell ⟨g, i, none⟩ v) := h.grown (gset w1 g i v) (fun q e => by cases e; exact hn)
abbrev z4 : Array Value := #[.int .i64 0, .int .i64 0, .int .i64 0, .int .i64 0]


end Go.Proofs.YtpmmploedkbeoaaGreatDoor.H

/- A heap of the program's beside whatever else is made or turned. -/
namespace Go.Proofs.YtpmmploedkbeoaaGreatDoor
open Go.RowKit

theorem kh {No : Nat → Prop} {w w' : World} (h : H.Keep No w w') : Keep No w w' := ⟨h.os, h.tape, h.output, h.size, h.block⟩
theorem hk {No : Nat → Prop} {w w' : World} (h : Keep No w w') : H.Keep No w w' := ⟨h.os, h.tape, h.output, h.size, h.block⟩
section
variable {No No' : Nat → Prop} {w w' : World} {S b c : Nat} {vb : Value} {s : H.St}
theorem Hp.sub (h : H.Hp No w S b c vb s) (hn : ∀ g, No' g → No g) : H.Hp No' w S b c vb s := h.reno (fun g q => .inl (hn g q))
/-- Blocks that were just made are none of the heap's. -/
theorem Hp.news (h : H.Hp No w S b c vb s) (hb : Below w.heap.size w w') : H.Hp (fun g => No g ∨ (w.heap.size ≤ g ∧ g < w'.heap.size)) w' S b c vb s := by
  have lS : S < w.heap.size := (Array.getElem?_eq_some_iff.1 h.str).1
  obtain ⟨es, clock, hbk⟩ := h.rdy.block
  have lb : b < w.heap.size := (Array.getElem?_eq_some_iff.1 hbk).1
  have hg : w.grownBy w' none := ⟨hb.os, hb.tape, hb.output, hb.size, fun i hi _ => hb.block i hi⟩
  have hr : H.Rdy (fun g => No g ∨ (w.heap.size ≤ g ∧ g < w'.heap.size)) w b c s.R := h.rdy.reno (fun g q => q.imp id (fun q => q.1))
  have hp := h.below hb
  refine ⟨hp.str, hp.row, hr.kept hg (fun g q => by cases q), h.len, fun q => ?_, fun q => ?_, fun g hg' q => ?_, fun g q => ?_⟩
  · rcases q with q | q
    · exact h.noS q
    · omega
  · rcases q with q | q
    · exact h.nob q
    · omega
  · rcases q with q | q
    · exact h.nov g hg' q
    · have := (h.row.lt g hg').2; omega
  · rcases q with q | q
    · have := h.nos g q; have := hb.size; omega
    · exact q.2
/-- The world w with the first i blocks as in w'. -/
def mix (w w' : World) (i : Nat) : World := { w with heap := Array.ofFn (n := w.heap.size) fun j => if j.1 < i then (w'.heap[j.1]?).getD w.heap[j.1] else w.heap[j.1] }
theorem mix_size (w w' : World) (i : Nat) : (mix w w' i).heap.size = w.heap.size := by simp [mix]
theorem mix_at (w w' : World) (i j : Nat) (hs : w.heap.size ≤ w'.heap.size) (hj : j < w.heap.size) : (mix w w' i).heap[j]? = if j < i then w'.heap[j]? else w.heap[j]? := by
  have hj' : j < w'.heap.size := by omega
  simp only [mix]
  rw [Array.getElem?_eq_getElem (by simpa using hj)]
  simp only [Array.getElem_ofFn]
  split
  · rw [Array.getElem?_eq_getElem hj']; rfl
  · rw [Array.getElem?_eq_getElem hj]
/-- Over whatever leaves the heap's own blocks as they were. -/
theorem Hp.frame (h : H.Hp No w S b c vb s) (hos : w'.os = w.os) (ht : w'.tape = w.tape) (ho : w'.output = w.output) (hs : w.heap.size ≤ w'.heap.size) (hb : ∀ g, g < w.heap.size → ¬ No g → w'.heap[g]? = w.heap[g]?) : H.Hp No w' S b c vb s := by
  have key : ∀ i, i ≤ w.heap.size → H.Hp No (mix w w' i) S b c vb s := fun i => by
    induction i with
    | zero =>
      intro _
      have : mix w w' 0 = w := by
        have e : (mix w w' 0).heap = w.heap := by
          apply Array.ext_getElem?
          intro j
          rcases Nat.lt_or_ge j w.heap.size with q | q
          · rw [mix_at w w' 0 j hs q, if_neg (by omega)]
          · rw [Array.getElem?_eq_none (by rw [mix_size]; exact q), Array.getElem?_eq_none q]
        have e2 : mix w w' 0 = { w with heap := (mix w w' 0).heap } := rfl
        rw [e2, e]
      rw [this]; exact h
    | succ i ih =>
      intro hi
      have h1 := ih (by omega)
      by_cases q : No i
      · refine h1.keeps (g := i) ⟨rfl, rfl, rfl, by rw [mix_size, mix_size]; exact Nat.le_refl _, fun k hk hne => ?_⟩ q
        rw [mix_size] at hk
        rw [mix_at w w' _ k hs hk, mix_at w w' _ k hs hk]
        have : k ≠ i := fun e => hne (by rw [e])
        by_cases q2 : k < i
        · rw [if_pos q2, if_pos (by omega)]
        · rw [if_neg q2, if_neg (by omega)]
      · have : mix w w' (i + 1) = mix w w' i := by
          have e : (mix w w' (i + 1)).heap = (mix w w' i).heap := by
            apply Array.ext_getElem?
            intro j
            rcases Nat.lt_or_ge j w.heap.size with q1 | q1
            · rw [mix_at w w' _ j hs q1, mix_at w w' _ j hs q1]
              by_cases q2 : j = i
              · subst q2; rw [if_pos (by omega), if_neg (by omega)]; exact hb j q1 q
              · by_cases q3 : j < i
                · rw [if_pos q3, if_pos (by omega)]
                · rw [if_neg q3, if_neg (by omega)]
            · rw [Array.getElem?_eq_none (by rw [mix_size]; exact q1), Array.getElem?_eq_none (by rw [mix_size]; exact q1)]
          have e2 : mix w w' (i + 1) = { mix w w' i with heap := (mix w w' (i + 1)).heap } := rfl
          rw [e2, e]
        rw [this]; exact h1
  have hl := key _ (Nat.le_refl _)
  refine hl.below ⟨hos, ht, ho, by rw [mix_size]; exact hs, fun g hg => ?_⟩
  rw [mix_size] at hg
  rw [mix_at w w' _ g hs hg, if_pos hg]
/-- And what was made is none of the heap's. -/
theorem Hp.frame2 (h : H.Hp No w S b c vb s) (hos : w'.os = w.os) (ht : w'.tape = w.tape) (ho : w'.output = w.output) (hs : w.heap.size ≤ w'.heap.size) (hb : ∀ g, g < w.heap.size → ¬ No g → w'.heap[g]? = w.heap[g]?) : H.Hp (fun g => No g ∨ (w.heap.size ≤ g ∧ g < w'.heap.size)) w' S b c vb s := by
  have key : ∀ i, i ≤ w.heap.size → H.Hp No (mix w w' i) S b c vb s := fun i => by
    induction i with
    | zero =>
      intro _
      have : mix w w' 0 = w := by
        have e : (mix w w' 0).heap = w.heap := by
          apply Array.ext_getElem?
          intro j
          rcases Nat.lt_or_ge j w.heap.size with q | q
          · rw [mix_at w w' 0 j hs q, if_neg (by omega)]
          · rw [Array.getElem?_eq_none (by rw [mix_size]; exact q), Array.getElem?_eq_none q]
        have e2 : mix w w' 0 = { w with heap := (mix w w' 0).heap } := rfl
        rw [e2, e]
      rw [this]; exact h
    | succ i ih =>
      intro hi
      have h1 := ih (by omega)
      by_cases q : No i
      · refine h1.keeps (g := i) ⟨rfl, rfl, rfl, by rw [mix_size, mix_size]; exact Nat.le_refl _, fun k hk hne => ?_⟩ q
        rw [mix_size] at hk
        rw [mix_at w w' _ k hs hk, mix_at w w' _ k hs hk]
        have : k ≠ i := fun e => hne (by rw [e])
        by_cases q2 : k < i
        · rw [if_pos q2, if_pos (by omega)]
        · rw [if_neg q2, if_neg (by omega)]
      · have : mix w w' (i + 1) = mix w w' i := by
          have e : (mix w w' (i + 1)).heap = (mix w w' i).heap := by
            apply Array.ext_getElem?
            intro j
            rcases Nat.lt_or_ge j w.heap.size with q1 | q1
            · rw [mix_at w w' _ j hs q1, mix_at w w' _ j hs q1]
              by_cases q2 : j = i
              · subst q2; rw [if_pos (by omega), if_neg (by omega)]; exact hb j q1 q
              · by_cases q3 : j < i
                · rw [if_pos q3, if_pos (by omega)]
                · rw [if_neg q3, if_neg (by omega)]
            · rw [Array.getElem?_eq_none (by rw [mix_size]; exact q1), Array.getElem?_eq_none (by rw [mix_size]; exact q1)]
          have e2 : mix w w' (i + 1) = { mix w w' i with heap := (mix w w' (i + 1)).heap } := rfl
          rw [e2, e]
        rw [this]; exact h1
  have hl := key _ (Nat.le_refl _)
  have hn := Hp.news hl (w' := w') ⟨hos, ht, ho, by rw [mix_size]; exact hs, fun g hg => by
    rw [mix_size] at hg
    rw [mix_at w w' _ g hs hg, if_pos hg]⟩
  rw [mix_size] at hn
  exact hn
end
end Go.Proofs.YtpmmploedkbeoaaGreatDoor

/- The heap's taking as a plain function (no program in it). -/
namespace Go.Proofs.YtpmmploedkbeoaaGreatDoor.H
open Go.RowKit
theorem take_snoc' (l : List (Int × Bool)) (k : Nat) (h : k < l.length) : l.take (k + 1) = l.take k ++ [l[k]'h] := by
  rw [List.take_add_one, List.getElem?_eq_getElem h]; rfl
theorem takeSt_bad {s : St} {n : Int} (h : takeE s n ≠ 0 ∨ n = 0) : takeSt s n = s ∧ takeId s n = 0 := by
  unfold takeSt takeId
  unfold takeE at h
  by_cases h0 : n < 0
  · rw [if_pos h0, if_pos h0]; exact ⟨rfl, rfl⟩
  · rw [if_neg h0] at h ⊢
    rw [if_neg h0]
    by_cases h1 : s.lim - s.live < n
    · rw [if_pos h1, if_pos h1]; exact ⟨rfl, rfl⟩
    · rw [if_neg h1] at h ⊢
      rw [if_neg h1]
      rcases h with h | h
      · exact absurd rfl h
      · rw [if_pos h, if_pos h]; exact ⟨rfl, rfl⟩
theorem takeE_zero {s : St} {n : Int} (h : takeE s n = 0) : 0 ≤ n ∧ n ≤ s.lim - s.live := by
  unfold takeE at h
  by_cases q1 : n < 0
  · rw [if_pos q1] at h; omega
  · rw [if_neg q1] at h
    by_cases q2 : s.lim - s.live < n
    · rw [if_pos q2] at h; omega
    · omega

end Go.Proofs.YtpmmploedkbeoaaGreatDoor.H
