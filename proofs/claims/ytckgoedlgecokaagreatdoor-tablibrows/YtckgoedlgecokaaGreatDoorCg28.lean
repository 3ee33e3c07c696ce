/- The walks of SameVals, gap and Unpack. -/
import Derived.Test.YtckgoedlgecokaaGreatDoorCg23
namespace Go.Proofs.YtckgoedlgecokaaGreatDoor
open Go.RowKit
set_option maxRecDepth 20000 in
set_option maxHeartbeats 2000000 in
theorem same_any {n A B : Nat} {F : Nat → V} {va vb : Value} {w : World} (ha : Lv w A va n F) (hb : Lv w B vb n F) (hn : n ≤ 1000000) : Calls Tryz.prog 16 #[va, vb] w fun e w' => e = .returned (.bool true) ∧ Below w.heap.size w w' := by
  obtain ⟨a, c, rfl⟩ := ha.form
  obtain ⟨b, d, rfl⟩ := hb.form
  have HA : Hid (Lv w A (.slice a n c) n F ∧ Lv w B (.slice b n d) n F) := ⟨ha, hb⟩
  clear ha hb
  go_enter Tryz.func16, Tryz.ntmps16
  go_wp2
  go_loopw [5] (fun iv wx => ∃ k : Nat, iv = .int .i64 (k : Nat) ∧ k ≤ n ∧ Hid (Below w.heap.size w wx)) (fun iv _ => n - (intOf iv).toNat)
  case atStart => exact ⟨0, rfl, by omega, Below.refl _ _⟩
  case round =>
    obtain ⟨k, rfl, hk, HW⟩ := hrel
    by_cases hlt : k < n
    · have h1 : (k : Int) < (n : Int) := by omega
      have wk : IntKind.i64.wrap ((k : Int) + 1) = (k : Int) + 1 := by rw [IntKind.wrap_i64]; omega
      have hms : n - (k + 1) < n - k := by omega
      obtain ⟨g, cg, eg, _, l1, _, m0', m1', m2'⟩ := HA.out.1.at hlt
      obtain ⟨g', cg', eg', _, l2, _, p0', p1', p2'⟩ := HA.out.2.at hlt
      injection eg with e1 e2 e3
      injection eg' with f1 f2 f3
      subst e1 f1
      clear e2 e3 f2 f3
      obtain ⟨x, hx⟩ : ∃ x, F k = x := ⟨_, rfl⟩
      rw [hx] at m0' m1' m2' p0' p1' p2'
      have m0 := (HW.out.drew.cell (p := ⟨g, k * 3, none⟩) l1).trans m0'
      have m1 := (HW.out.drew.cell (p := ⟨g, k * 3 + 1, none⟩) l1).trans m1'
      have m2 := (HW.out.drew.cell (p := ⟨g, k * 3 + 2, none⟩) l1).trans m2'
      have p0 := (HW.out.drew.cell (p := ⟨g', k * 3, none⟩) l2).trans p0'
      have p1 := (HW.out.drew.cell (p := ⟨g', k * 3 + 1, none⟩) l2).trans p1'
      have p2 := (HW.out.drew.cell (p := ⟨g', k * 3 + 2, none⟩) l2).trans p2'
      clear m0' m1' m2' p0' p1' p2'
      have e1 := neqV x
      clear hx
      go_wp2_with fail
      go_region
      go_wp2
      go_roundw
      case rel => exact ⟨k + 1, by go_num, by omega, HW.out.drew⟩
      case measure => first | omega | (simp only [intOf]; omega) | (simp; omega)
    · have h1 : ¬ (k : Int) < (n : Int) := by omega
      go_wp2
      go_ret
      exact ⟨rfl, HW.out⟩
theorem gap_num {lo hi : Int} (h : lo ≤ hi) (h1 : I64 lo) (h2 : I64 hi) : IntKind.u64.wrap (IntKind.u64.wrap hi - IntKind.u64.wrap lo) = hi - lo := by
  have := h1.1
  have := h2.2
  rw [IntKind.wrap_u64, IntKind.wrap_u64, IntKind.wrap_u64]
  omega
theorem gap_any (lo hi : Int) (h : lo ≤ hi) (h1 : I64 lo) (h2 : I64 hi) (w : World) : Calls Tryz.prog 30 #[.int .i64 lo, .int .i64 hi] w fun e w' => e = .returned (.int .u64 (hi - lo)) ∧ w' = w := by
  have hg := gap_num h h1 h2
  clear h h1 h2
  go_enter Tryz.func30, Tryz.ntmps30
  go_wp2
  go_ret
  exact ⟨rfl, rfl⟩
/-- What Unpack answers: a list of its own, the table as it was. -/
structure UP (No : Nat → Prop) (w : World) (T S hb c : Nat) (a : Int) (K : Nat) (f : Int → V) (n : Nat) (i : Int) (e : Ending) (w' : World) : Prop where
  ex : ∃ ad cp, e = .returned (.tuple #[.slice ad n cp, .int .i64 0]) ∧ Lv w' w.heap.size (.slice ad n cp) n (fun k => f (i + k)) ∧ Keep No w w' ∧ ∃ No' : Nat → Prop, Tw No' w' T S hb c a K f ∧ (∀ g, No g → No' g) ∧ ∀ q, (Value.slice ad n cp).ownBlock = some q → No' q
section
variable {No : Nat → Prop} {w : World} {T S hb c : Nat} {a : Int} {K : Nat} {f : Int → V}
set_option maxRecDepth 20000 in
set_option maxHeartbeats 2000000 in
theorem unpack_none (h : Tw No w T S hb c a K f) (i j : Int) (hij : j < i) : Calls Tryz.prog 15 #[tp T, .int .i64 i, .int .i64 j] w (UP No w T S hb (c + 300) a K f 0 i) := by
  have H : Hid _ := h
  clear h
  go_enter Tryz.func15, Tryz.ntmps15
  go_wp2
  exact bodyPost_ret (v := .tuple #[.slice none 0 0, .int .i64 0]) (by simp [results, Tryz.results15, go_sem]) rfl ⟨none, 0, rfl, Lv.nil _ _ _, Keep.refl _ _, No, H.out.more (by omega), fun g q => q, fun q e => by cases e⟩
theorem zeros_cells (n : Nat) : (zeros3 n).toList = cellsV (fun _ => nil) n := by
  refine List.ext_getElem? fun j => ?_
  by_cases h : j < n * 3
  · rw [cellsV_at _ _ _ h]
    rcases lt3 (show j % 3 < 3 by omega) with q | q | q <;> simp [zeros3, madeCells, Value.cells, vc, nil, h, q]
  · rw [List.getElem?_eq_none (by simp [zeros3, madeCells]; omega), List.getElem?_eq_none (by rw [cellsV_len]; omega)]
theorem zeros_lv (w : World) (n : Nat) (hn : n ≤ 65536) : Lv (w.alloc (.cells (zeros3 n) 24)) w.heap.size (.slice (some ⟨w.heap.size, 0, none⟩) n n) n (fun _ => nil) := by
  have h := World.ownsRow_lit (base := w.heap.size) (e := 24) (size := 3) w (zeros3 n) n (Nat.le_refl _) (by unfold maxLen; omega) (by simp [zeros3, madeCells])
  rw [zeros_cells] at h
  exact ⟨h⟩
theorem Tw.at3 (h : Tw No w T S hb c a K f) {N : Nat} (hN : No N) (i : Nat) (y : V) : Tw No (((w.setCell ⟨N, i, none⟩ (.int .i64 y.1)).setCell ⟨N, i + 1, none⟩ (.int .i64 y.2.1)).setCell ⟨N, i + 2, none⟩ (.string y.2.2)) T S hb c a K f := ((h.cell hN _).cell hN _).cell hN _
set_option maxRecDepth 20000 in
set_option maxHeartbeats 4000000 in
theorem unpack_some (h : Tw No w T S hb c a K f) (hc : c ≤ 400000) (i : Int) (n : Nat) (hn0 : 0 < n) (hn : n ≤ 200) (hi : I64 i) (hj : I64 (i + n - 1)) : Calls Tryz.prog 15 #[tp T, .int .i64 i, .int .i64 (i + n - 1)] w (UP No w T S hb (c + 300) a K f n i) := by
  have CG := gap_any i (i + n - 1) (by omega) hi hj w
  have g0 : ¬ i + (n : Int) - 1 < i := by omega
  have g1 : ¬ (200 : Int) ≤ i + (n : Int) - 1 - i := by omega
  have w1 : IntKind.i64.wrap (i + (n : Int) - 1 - i) = (n : Int) - 1 := by rw [IntKind.wrap_i64]; omega
  have w2 : IntKind.i64.wrap ((n : Int) - 1 + 1) = (n : Int) := by rw [IntKind.wrap_i64]; omega
  have hm := make_vals n (by omega) w
  obtain ⟨No2, h0, n1, n2, n3⟩ := h.box (.cells (zeros3 n) 24)
  have L0 := zeros_lv w n (by omega)
  have HI : Hid (Tw No2 (w.alloc (.cells (zeros3 n) 24)) T S hb (c + 0) a K f ∧ (∃ F, Lv (w.alloc (.cells (zeros3 n) 24)) w.heap.size (.slice (some ⟨w.heap.size, 0, none⟩) n n) n F ∧ ∀ q, q < 0 → F q = f (i + q)) ∧ Keep No w (w.alloc (.cells (zeros3 n) 24))) := ⟨h0, ⟨_, L0, fun q hq => absurd hq (Nat.not_lt_zero _)⟩, Keep.of (b1 _ _)⟩
  have HN : Hid ((∀ g, No g → No2 g) ∧ No2 w.heap.size ∧ ¬ No w.heap.size ∧ I64 i ∧ I64 (i + n - 1)) := ⟨n1, n2, n3, hi, hj⟩
  clear h h0 n1 n2 n3 L0 hi hj
  go_enter Tryz.func15, Tryz.ntmps15
  go_wp2_with (go_at_call 30; refine CG.mono ?_; rintro e wq ⟨rfl, hwq⟩; obtain rfl : w = wq := hwq.symm)
  go_loopw [29] (fun iv wx => ∃ k : Nat, iv = .int .i64 (k : Nat) ∧ k ≤ n ∧ Hid (Tw No2 wx T S hb (c + k) a K f ∧ (∃ F, Lv wx w.heap.size (.slice (some ⟨w.heap.size, 0, none⟩) n n) n F ∧ ∀ q : Nat, q < k → F q = f (i + q)) ∧ Keep No w wx)) (fun iv _ => n - (intOf iv).toNat)
  case atStart => exact ⟨0, rfl, by omega, HI⟩
  case round =>
    clear HI CG hm
    obtain ⟨k, rfl, hk, HI⟩ := hrel
    by_cases hlt : k < n
    · have h1 : (k : Int) < (n : Int) := by omega
      have wk : IntKind.i64.wrap ((k : Int) + 1) = (k : Int) + 1 := by rw [IntKind.wrap_i64]; omega
      have wi : IntKind.i64.wrap (i + (k : Int)) = i + (k : Int) := by have := HN.out.2.2.2.1.1; have := HN.out.2.2.2.2.2; rw [IntKind.wrap_i64]; omega
      have hms : n - (k + 1) < n - k := by omega
      have C := HI.out.1.get31 (by omega) (i + k) (by have := HN.out.2.2.2.1.1; have := HN.out.2.2.2.2.2; exact ⟨by omega, by omega⟩)
      obtain ⟨y, hy⟩ : ∃ y, f (i + k) = y := ⟨_, rfl⟩
      have HY : Hid (f (i + k) = y) := hy
      rw [hy] at C
      clear hy
      go_wp2_with fail
      refine C.mono ?_
      rintro e w3 ⟨rfl, t3, k3⟩
      obtain ⟨F, l2, hF⟩ := HI.out.2.1
      have l3 := l2.keep k3 (fun q e => by cases e; exact HN.out.2.1)
      have l4 := l3.set hlt y
      have t4 := t3.at3 HN.out.2.1 (k * 3) y
      have k4 : Keep No w (((w3.setCell ⟨w.heap.size, k * 3, none⟩ (.int .i64 y.1)).setCell ⟨w.heap.size, k * 3 + 1, none⟩ (.int .i64 y.2.1)).setCell ⟨w.heap.size, k * 3 + 2, none⟩ (.string y.2.2)) := (((HI.out.2.2.trans (k3.sub HN.out.1)).set (p := ⟨w.heap.size, k * 3, none⟩) HN.out.2.2.1 _).set (p := ⟨w.heap.size, k * 3 + 1, none⟩) HN.out.2.2.1 _).set (p := ⟨w.heap.size, k * 3 + 2, none⟩) HN.out.2.2.1 _
      obtain ⟨g3, cg3, eg3, _, lg3, fz3, x0, x1, x2⟩ := l3.at hlt
      injection eg3 with e1 e2 e3
      injection e1 with e1
      injection e1 with e1 _ _
      subst e1
      have fz := fz3 (k * 3)
      have fz1 := fz3 (k * 3 + 1)
      have fz2 := fz3 (k * 3 + 2)
      have HN2 : Hid (Tw No2 (((w3.setCell ⟨w.heap.size, k * 3, none⟩ (.int .i64 y.1)).setCell ⟨w.heap.size, k * 3 + 1, none⟩ (.int .i64 y.2.1)).setCell ⟨w.heap.size, k * 3 + 2, none⟩ (.string y.2.2)) T S hb (c + (k + 1)) a K f ∧ (∃ F, Lv (((w3.setCell ⟨w.heap.size, k * 3, none⟩ (.int .i64 y.1)).setCell ⟨w.heap.size, k * 3 + 1, none⟩ (.int .i64 y.2.1)).setCell ⟨w.heap.size, k * 3 + 2, none⟩ (.string y.2.2)) w.heap.size (.slice (some ⟨w.heap.size, 0, none⟩) n n) n F ∧ ∀ q : Nat, q < k + 1 → F q = f (i + q)) ∧ Keep No w (((w3.setCell ⟨w.heap.size, k * 3, none⟩ (.int .i64 y.1)).setCell ⟨w.heap.size, k * 3 + 1, none⟩ (.int .i64 y.2.1)).setCell ⟨w.heap.size, k * 3 + 2, none⟩ (.string y.2.2))) := ⟨t4, ⟨_, l4, fun q hq => by
        by_cases e : q = k
        · subst e; rw [upd_at]; exact HY.out.symm
        · rw [upd_ne _ _ e]; exact hF q (by omega)⟩, k4⟩
      clear C t3 k3 HI l2 hF l3 l4 t4 k4 e2 e3 lg3 fz3
      go_wp2
      go_roundw
      case rel => exact ⟨k + 1, by go_num, by omega, HN2⟩
      case measure => first | omega | (simp only [intOf]; omega) | (simp; omega)
    · have h1 : ¬ (k : Int) < (n : Int) := by omega
      have e0 : k = n := by omega
      subst e0
      obtain ⟨F, l2, hF⟩ := HI.out.2.1
      have HL : Hid (Lv wr w.heap.size (.slice (some ⟨w.heap.size, 0, none⟩) k k) k fun q => f (i + q)) := ⟨by rw [← cellsV_congr hF]; exact l2.own⟩
      clear l2 hF
      go_wp2
      exact bodyPost_ret (v := .tuple #[.slice (some ⟨w.heap.size, 0, none⟩) k k, .int .i64 0]) (by simp [results, Tryz.results15, go_sem]) rfl ⟨_, _, rfl, HL.out, HI.out.2.2, No2, HI.out.1.more (by omega), HN.out.1, fun q e => by cases e; exact HN.out.2.1⟩
theorem unpack_any (h : Tw No w T S hb c a K f) (hc : c ≤ 400000) (i j : Int) (n : Nat) (hj : j = i + n - 1) (hn : n ≤ 200) (h1 : -100000 ≤ i ∧ i ≤ 100000) : Calls Tryz.prog 15 #[tp T, .int .i64 i, .int .i64 j] w fun e w' => UP No w T S hb (c + 300) a K f n i e w' := by
  by_cases h0 : n = 0
  · subst h0
    exact unpack_none h i j (by omega)
  · subst hj
    exact unpack_some h hc i n (by omega) hn ⟨by omega, by omega⟩ ⟨by omega, by omega⟩
end
end Go.Proofs.YtckgoedlgecokaaGreatDoor
