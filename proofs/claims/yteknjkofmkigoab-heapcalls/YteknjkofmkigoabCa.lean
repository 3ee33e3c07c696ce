/- The walk of the law HeapCalls. -/
import Derived.Test.YteknjkofmkigoabHc
namespace Go.Proofs.Yteknjkofmkigoab.H
open Go.RowKit

set_option maxRecDepth 20000 in
set_option maxHeartbeats 8000000 in
theorem calls_bad (n : Int) (l : List (Int × Int)) (v : Value) (w : World) (h : Ops w.heap.size w v l) (h0 : n < 0 ∨ 400000 < n) :
    Calls Try.prog 5 #[.int .i64 n, v] w fun e w' => e = .returned (.bool true) ∧ Below w.heap.size w w' := by
  obtain ⟨a, cap, rfl, _, _⟩ := h
  generalize l.length = L at *
  by_cases h1 : n < 0
  · skip
    go_enter Try.func5, Try.ntmps5
    go_wp2_with fail
    refine (fixed_any w).mono ?_
    rintro e w1 ⟨rfl, b1⟩
    have C := new_bad w1 n h0
    have C1 := live_nil w1
    have C2 := laid_nil w1
    have C3 := blocks_nil w1
    have C4 := give_nil w1
    have C5 := spend_nil w1
    clear h0
    go_wp2_with (first | (go_at_call 20; refine C.mono ?_; rintro e w' ⟨rfl, rfl⟩) | (go_at_call 21; refine C1.mono ?_; rintro e w' ⟨rfl, rfl⟩) | (go_at_call 22; refine C2.mono ?_; rintro e w' ⟨rfl, rfl⟩) | (go_at_call 23; refine C3.mono ?_; rintro e w' ⟨rfl, rfl⟩) | (go_at_call 24; refine C4.mono ?_; rintro e w' ⟨rfl, rfl⟩) | (go_at_call 25; refine C5.mono ?_; rintro e w' ⟨rfl, rfl⟩))
    go_ret
    exact ⟨rfl, b1⟩
  · have h2 : 400000 < n := by omega
    go_enter Try.func5, Try.ntmps5
    go_wp2_with fail
    refine (fixed_any w).mono ?_
    rintro e w1 ⟨rfl, b1⟩
    have C := new_bad w1 n h0
    have C1 := live_nil w1
    have C2 := laid_nil w1
    have C3 := blocks_nil w1
    have C4 := give_nil w1
    have C5 := spend_nil w1
    clear h0
    go_wp2_with (first | (go_at_call 20; refine C.mono ?_; rintro e w' ⟨rfl, rfl⟩) | (go_at_call 21; refine C1.mono ?_; rintro e w' ⟨rfl, rfl⟩) | (go_at_call 22; refine C2.mono ?_; rintro e w' ⟨rfl, rfl⟩) | (go_at_call 23; refine C3.mono ?_; rintro e w' ⟨rfl, rfl⟩) | (go_at_call 24; refine C4.mono ?_; rintro e w' ⟨rfl, rfl⟩) | (go_at_call 25; refine C5.mono ?_; rintro e w' ⟨rfl, rfl⟩))
    go_ret
    exact ⟨rfl, b1⟩

set_option maxRecDepth 20000 in
set_option maxHeartbeats 8000000 in
theorem calls_good (n : Int) (l : List (Int × Int)) (v : Value) (w : World) (h : Ops w.heap.size w v l) (h1 : 0 ≤ n) (h2 : n ≤ 400000) :
    Calls Try.prog 5 #[.int .i64 n, v] w fun e w' => e = .returned (.bool true) ∧ Below w.heap.size w w' := by
  obtain ⟨a, cap, rfl, hcap, h⟩ := h
  have HC : Hid _ := h
  have HL : Hid (l ≠ [] ↔ 0 < l.length) := by
    show _ ↔ _
    cases l <;> simp
  clear h hcap
  obtain ⟨L, hL⟩ : ∃ L, l.length = L := ⟨_, rfl⟩
  rw [hL] at HC HL ⊢
  clear hL
  go_enter Try.func5, Try.ntmps5
  go_wp2_with fail
  refine (fixed_any w).mono ?_
  rintro e w1 ⟨rfl, b1⟩
  go_wp2_with fail
  refine (new_walk w1 n h1 h2).mono ?_
  rintro e w2 ⟨rfl, rfl⟩
  have j2 := new_jo w1 n h1 h2
  have hw : Below w1.heap.size w1 (((w1.alloc (.map #[] 0)).alloc (.cells #[.int .i64 n, .int .i64 0, .int .i64 0, .slice none 0 0, .map (some w1.heap.size)] 70)).alloc (.cells #[.int .i64 n, .int .i64 0, .int .i64 0, .slice none 0 0] 50)) := (((Below.refl _ _).alloc (Nat.le_refl _) _).alloc (by simp) _).alloc (by simp; omega) _
  have HC1 : Hid (∀ wr k, Below w1.heap.size w1 wr → k < L → ∃ g off, a = some ⟨g, off, none⟩ ∧ wr.cell? ⟨g, off + k * 2, none⟩ = some (.int .i64 (l.getD k (0, 0)).1) ∧ wr.cell? ⟨g, off + k * 2 + 1, none⟩ = some (.int .i64 (l.getD k (0, 0)).2) ∧ g < w1.heap.size) := fun wr k hb hk => by
    obtain ⟨g, off, e, hg, hc⟩ := HC.out (HL.out.2 (by omega))
    obtain ⟨q0, q1⟩ := hc k hk
    have hg1 : g < w1.heap.size := Nat.lt_of_lt_of_le hg b1.size
    refine ⟨g, off, e, ?_, ?_, hg1⟩
    · rw [hb.cell (by exact hg1), b1.cell (by exact hg)]; exact q0
    · rw [hb.cell (by exact hg1), b1.cell (by exact hg)]; exact q1
  obtain ⟨S, hS⟩ : ∃ S, w1.heap.size + 1 = S := ⟨_, rfl⟩
  obtain ⟨S', hS'⟩ : ∃ S', S + 1 = S' := ⟨_, rfl⟩
  obtain ⟨B, hB⟩ : ∃ B, w1.heap.size = B := ⟨_, rfl⟩
  have J2 : Hid (Jo w1.heap.size (((w1.alloc (.map #[] 0)).alloc (.cells #[.int .i64 n, .int .i64 0, .int .i64 0, .slice none 0 0, .map (some w1.heap.size)] 70)).alloc (.cells #[.int .i64 n, .int .i64 0, .int .i64 0, .slice none 0 0] 50)) S B S' 0) := by rw [← hS', ← hS, ← hB]; exact j2
  clear j2 HC HL hB
  go_wp2_with fail
  go_loopw [8] (fun i wr => ∃ k : Nat, i = .int .i64 k ∧ k ≤ L ∧ k ≤ 300 ∧ Hid (Jo w1.heap.size wr S B S' k) ∧ Below w1.heap.size w1 wr) (fun i _ => 300 - (intOf i).toNat)
  case atStart => exact ⟨0, rfl, by omega, by omega, J2, hw⟩
  case round =>
    obtain ⟨k, rfl, hk, hk3, J, hb⟩ := hrel
    have hbs := hb.size
    clear hw J2
    by_cases hlt : k < L ∧ k < 300
    · obtain ⟨hlt, hlt3⟩ := hlt
      have hlt' : (k : Int) < (L : Int) := by omega
      have hlt3' : (k : Int) < 300 := by omega
      obtain ⟨g, off, rfl, d0, d1, hg⟩ := HC1.out wr k hb hlt
      generalize (l.getD k (0, 0)).1 = x at d0
      generalize (l.getD k (0, 0)).2 = y at d1
      clear HC1
      by_cases hx1 : x = 1
      · subst hx1
        obtain ⟨x1, y1, C⟩ := take_jo J.out (by omega) hbs y
        clear J
        go_wp2_with fail
        refine C.mono ?_
        rintro e w3 ⟨rfl, b3, C2⟩
        have e1 : w3.cell? ⟨g, off + k * 2 + 1, none⟩ = some (.int .i64 y) := (b3.cell (by exact hg)).trans d1
        go_wp2_with fail
        refine C2.mono ?_
        rintro e w4 ⟨rfl, j4, b4⟩
        have B4 : Below w1.heap.size w1 w4 := (hb.trans b3).trans b4
        obtain ⟨lv, ld, T⟩ := look_jos j4 (by omega)
        have HJ : Hid (∀ W', World.grownBy w4 W' none → Jo w1.heap.size W' S B S' (k + 1)) := fun W' q => Jo.at j4 q
        have HB4 : Hid (∀ W', World.grownBy w4 W' none → Below w1.heap.size w1 W') := fun W' q => B4.trans (bgrow q B4.size)
        clear B4 j4 C C2 hb b3 b4 e1 d0 d1
        go_wp2_with (first | (go_at_call 21; refine (T _ (by exact ⟨rfl, rfl, rfl, Nat.le_refl _, fun _ _ _ => rfl⟩)).1.mono ?_; rintro e w' ⟨rfl, rfl⟩) | (go_at_call 31; refine (T _ (by exact ⟨rfl, rfl, rfl, Nat.le_refl _, fun _ _ _ => rfl⟩)).2.1.mono ?_; rintro e w' ⟨rfl, rfl⟩) | (go_at_call 22; refine (T _ (by exact ⟨rfl, rfl, rfl, Nat.le_refl _, fun _ _ _ => rfl⟩)).2.2.1.mono ?_; rintro e w' ⟨rfl, rfl⟩) | (go_at_call 32; refine (T _ (by exact ⟨rfl, rfl, rfl, Nat.le_refl _, fun _ _ _ => rfl⟩)).2.2.2.mono ?_; rintro e w' ⟨rfl, rfl⟩))
        go_roundw
        case rel => exact ⟨k + 1, by go_num, by omega, by omega, HJ.out _ (by exact ⟨rfl, rfl, rfl, Nat.le_refl _, fun _ _ _ => rfl⟩), HB4.out _ (by exact ⟨rfl, rfl, rfl, Nat.le_refl _, fun _ _ _ => rfl⟩)⟩
        case measure => simp [intOf]; omega
      · by_cases hx2 : x = 2
        · subst hx2
          obtain ⟨E, C⟩ := give_jo J.out (by omega) hbs y
          clear J
          go_wp2_with fail
          go_region_with (first | (go_at_call 24; refine (C _ (by exact ⟨rfl, rfl, rfl, Nat.le_refl _, fun _ _ _ => rfl⟩)).mono ?_; rintro e w3 ⟨rfl, b3, C2⟩; have e1 : w3.cell? ⟨g, off + k * 2 + 1, none⟩ = some (.int .i64 y) := (b3.cell (by exact hg)).trans d1) | (go_at_call 28; refine (C2 _ (by exact ⟨rfl, rfl, rfl, Nat.le_refl _, fun _ _ _ => rfl⟩)).mono ?_; rintro e w4 ⟨rfl, J4, b4⟩))
          all_goals
            have B4 := hb.trans b4
            obtain ⟨lv, ld, T⟩ := look_jos J4 (by omega)
            have HJ : Hid (∀ W', World.grownBy w4 W' none → Jo w1.heap.size W' S B S' (k + 1)) := fun W' q => Jo.at J4 q
            have HB4 : Hid (∀ W', World.grownBy w4 W' none → Below w1.heap.size w1 W') := fun W' q => B4.trans (bgrow q B4.size)
            clear B4 J4 C C2 hb b3 b4 d0 d1
            go_wp2_with (first | (go_at_call 21; refine (T _ (by exact ⟨rfl, rfl, rfl, Nat.le_refl _, fun _ _ _ => rfl⟩)).1.mono ?_; rintro e w' ⟨rfl, rfl⟩) | (go_at_call 31; refine (T _ (by exact ⟨rfl, rfl, rfl, Nat.le_refl _, fun _ _ _ => rfl⟩)).2.1.mono ?_; rintro e w' ⟨rfl, rfl⟩) | (go_at_call 22; refine (T _ (by exact ⟨rfl, rfl, rfl, Nat.le_refl _, fun _ _ _ => rfl⟩)).2.2.1.mono ?_; rintro e w' ⟨rfl, rfl⟩) | (go_at_call 32; refine (T _ (by exact ⟨rfl, rfl, rfl, Nat.le_refl _, fun _ _ _ => rfl⟩)).2.2.2.mono ?_; rintro e w' ⟨rfl, rfl⟩))
            go_roundw
            case rel => exact ⟨k + 1, by go_num, by omega, by omega, HJ.out _ (by exact ⟨rfl, rfl, rfl, Nat.le_refl _, fun _ _ _ => rfl⟩), HB4.out _ (by exact ⟨rfl, rfl, rfl, Nat.le_refl _, fun _ _ _ => rfl⟩)⟩
            case measure => simp [intOf]; omega
        · by_cases hx3 : x = 3
          · subst hx3
            obtain ⟨E, C⟩ := spend_jo J.out (by omega) hbs y
            clear J
            go_wp2_with fail
            go_region_with (first | (go_at_call 25; refine (C _ (by exact ⟨rfl, rfl, rfl, Nat.le_refl _, fun _ _ _ => rfl⟩)).mono ?_; rintro e w3 ⟨rfl, b3, C2⟩; have e1 : w3.cell? ⟨g, off + k * 2 + 1, none⟩ = some (.int .i64 y) := (b3.cell (by exact hg)).trans d1) | (go_at_call 29; refine (C2 _ (by exact ⟨rfl, rfl, rfl, Nat.le_refl _, fun _ _ _ => rfl⟩)).mono ?_; rintro e w4 ⟨rfl, J4, b4⟩))
            all_goals
              have B4 := hb.trans b4
              obtain ⟨lv, ld, T⟩ := look_jos J4 (by omega)
              have HJ : Hid (∀ W', World.grownBy w4 W' none → Jo w1.heap.size W' S B S' (k + 1)) := fun W' q => Jo.at J4 q
              have HB4 : Hid (∀ W', World.grownBy w4 W' none → Below w1.heap.size w1 W') := fun W' q => B4.trans (bgrow q B4.size)
              clear B4 J4 C C2 hb b3 b4 d0 d1
              go_wp2_with (first | (go_at_call 21; refine (T _ (by exact ⟨rfl, rfl, rfl, Nat.le_refl _, fun _ _ _ => rfl⟩)).1.mono ?_; rintro e w' ⟨rfl, rfl⟩) | (go_at_call 31; refine (T _ (by exact ⟨rfl, rfl, rfl, Nat.le_refl _, fun _ _ _ => rfl⟩)).2.1.mono ?_; rintro e w' ⟨rfl, rfl⟩) | (go_at_call 22; refine (T _ (by exact ⟨rfl, rfl, rfl, Nat.le_refl _, fun _ _ _ => rfl⟩)).2.2.1.mono ?_; rintro e w' ⟨rfl, rfl⟩) | (go_at_call 32; refine (T _ (by exact ⟨rfl, rfl, rfl, Nat.le_refl _, fun _ _ _ => rfl⟩)).2.2.2.mono ?_; rintro e w' ⟨rfl, rfl⟩))
              go_roundw
              case rel => exact ⟨k + 1, by go_num, by omega, by omega, HJ.out _ (by exact ⟨rfl, rfl, rfl, Nat.le_refl _, fun _ _ _ => rfl⟩), HB4.out _ (by exact ⟨rfl, rfl, rfl, Nat.le_refl _, fun _ _ _ => rfl⟩)⟩
              case measure => simp [intOf]; omega
          · have x1 : (x == 1) = false := by simp; omega
            have x2 : (x == 2) = false := by simp; omega
            have x3 : (x == 3) = false := by simp; omega
            obtain ⟨t, ht, C⟩ := blocks_jo J.out (by omega)
            go_wp2_with fail
            refine C.mono ?_
            rintro e w3 ⟨v3, rfl, o3, b3, C2⟩
            go_wp2_with fail
            refine C2.mono ?_
            rintro e w4 ⟨v4, rfl, o4, b4⟩
            have o3' := own_keep (w' := w4) o3 (fun q e => b4.block q (o3.lt q e).2)
            have C3 := same_walk t t v3 v4 w4 (ints_own o3') (ints_own o4) rfl (by omega)
            rw [decide_eq_true rfl] at C3
            clear C C2
            go_wp2_with fail
            refine C3.mono ?_
            rintro e w5 ⟨rfl, b5⟩
            have b35 : Below wr.heap.size wr w5 := bthen b3 b3.size (bthen b4 b4.size b5)
            have o5 := own_keep (w' := w5) o3' (fun q e => b5.block q (o3'.lt q e).2)
            have hlo := fun q e => (o3.lt q e).1
            obtain ⟨W0, hW0⟩ : ∃ W0, W0 = wr := ⟨_, rfl⟩
            subst hW0
            obtain ⟨ax, cx, rfl, hcx⟩ := slice_of o5
            have HX : Hid (0 < t.length → ∃ gx, ax = some ⟨gx, 0, none⟩ ∧ Fil gx (fun i => i) t.length w5) := fun hp => by
              obtain ⟨g', c', q, _⟩ := o5.form hp
              injection q with qa _ qc
              subst qa qc
              exact ⟨g', rfl, Fil.row o5⟩
            have HO : Hid (∀ q, (Value.slice ax t.length cx).ownBlock = some q → W0.heap.size ≤ q) := hlo
            have HB5 : Hid (Below W0.heap.size W0 w5) := b35
            clear o3 o3' o4 o5 b3 b4 b5 b35 hlo C3 d0 d1
            generalize t.length = nx at *
            go_wp2_with fail
            go_loopw [14] (fun i w' => ∃ j : Nat, i = .int .i64 j ∧ j ≤ nx ∧ Hid (0 < nx → ∃ gx, ax = some ⟨gx, 0, none⟩ ∧ Fil gx (fun i => i) nx w') ∧ Hid (Below W0.heap.size W0 w')) (fun i _ => nx - (intOf i).toNat)
            case atStart => exact ⟨0, rfl, by omega, HX, HB5⟩
            case round =>
              obtain ⟨j, rfl, hj, HX3, HG3⟩ := hrel
              by_cases hjt : j < nx
              · have hjt' : (j : Int) < (nx : Int) := by omega
                obtain ⟨gx, rfl, fx⟩ := HX3.out (by omega)
                obtain ⟨xv, c0⟩ := fx.cells j hjt
                have f0 := fx.free j
                have HN : Hid (∀ x : Int, 0 < nx → ∃ g', some (⟨gx, 0, none⟩ : Addr) = some ⟨g', 0, none⟩ ∧ Fil g' (fun i => i) nx (wr.setCell ⟨gx, j, none⟩ (.int .i64 x))) := fun x _ => ⟨gx, rfl, fx.put j x⟩
                have HM : Hid (∀ x : Int, Below W0.heap.size W0 (wr.setCell ⟨gx, j, none⟩ (.int .i64 x))) := fun x => HG3.out.grown (gset wr gx _ _) HG3.out.size (fun q e => by cases e; exact HO.out gx rfl)
                clear fx
                go_wp2_with fail
                go_roundw
                case rel => exact ⟨j + 1, by go_num, by omega, HN.out _, HM.out _⟩
                case measure => simp [intOf]; omega
              · have hnjt : ¬ (j : Int) < (nx : Int) := by omega
                have J5 := (J.out.at (below_grown HG3.out)).more
                have B5 : Below w1.heap.size w1 wr := bthen hb hb.size HG3.out
                obtain ⟨lv, ld, T⟩ := look_jos J5 (by omega)
                have HJ : Hid (∀ W', World.grownBy wr W' none → Jo w1.heap.size W' S B S' (k + 1)) := fun W' q => Jo.at J5 q
                have HB4 : Hid (∀ W', World.grownBy wr W' none → Below w1.heap.size w1 W') := fun W' q => B5.trans (bgrow q B5.size)
                clear B5 J5 J HX HX3 HO HB5 HG3 hb
                go_wp2_with (first | (go_at_call 21; refine (T _ (by exact ⟨rfl, rfl, rfl, Nat.le_refl _, fun _ _ _ => rfl⟩)).1.mono ?_; rintro e w' ⟨rfl, rfl⟩) | (go_at_call 31; refine (T _ (by exact ⟨rfl, rfl, rfl, Nat.le_refl _, fun _ _ _ => rfl⟩)).2.1.mono ?_; rintro e w' ⟨rfl, rfl⟩) | (go_at_call 22; refine (T _ (by exact ⟨rfl, rfl, rfl, Nat.le_refl _, fun _ _ _ => rfl⟩)).2.2.1.mono ?_; rintro e w' ⟨rfl, rfl⟩) | (go_at_call 32; refine (T _ (by exact ⟨rfl, rfl, rfl, Nat.le_refl _, fun _ _ _ => rfl⟩)).2.2.2.mono ?_; rintro e w' ⟨rfl, rfl⟩))
                go_roundw
                case rel => exact ⟨k + 1, by go_num, by omega, by omega, HJ.out _ (by exact ⟨rfl, rfl, rfl, Nat.le_refl _, fun _ _ _ => rfl⟩), HB4.out _ (by exact ⟨rfl, rfl, rfl, Nat.le_refl _, fun _ _ _ => rfl⟩)⟩
                case measure => simp [intOf]; omega
    · skip
      by_cases hq1 : k < L
      · have hlt' : (k : Int) < (L : Int) := by omega
        have hlt3' : ¬ (k : Int) < 300 := by omega
        clear hlt
        obtain ⟨t, ht, C⟩ := blocks_jo J.out (by omega)
        go_wp2_with fail
        refine C.mono ?_
        rintro e w3 ⟨v3, rfl, o3, b3, C2⟩
        go_wp2_with fail
        refine C2.mono ?_
        rintro e w4 ⟨v4, rfl, o4, b4⟩
        have o3' := own_keep (w' := w4) o3 (fun q e => b4.block q (o3.lt q e).2)
        have C3 := same_walk t t v3 v4 w4 (ints_own o3') (ints_own o4) rfl (by omega)
        rw [decide_eq_true rfl] at C3
        clear C C2
        go_wp2_with fail
        refine C3.mono ?_
        rintro e w5 ⟨rfl, b5⟩
        have b35 : Below wr.heap.size wr w5 := bthen b3 b3.size (bthen b4 b4.size b5)
        have b6 := bthen b1 b1.size (bthen hb hb.size b35)
        go_wp2_with fail
        go_ret
        exact ⟨rfl, b6⟩
      · have hlt' : ¬ (k : Int) < (L : Int) := by omega
        clear hlt
        obtain ⟨t, ht, C⟩ := blocks_jo J.out (by omega)
        go_wp2_with fail
        refine C.mono ?_
        rintro e w3 ⟨v3, rfl, o3, b3, C2⟩
        go_wp2_with fail
        refine C2.mono ?_
        rintro e w4 ⟨v4, rfl, o4, b4⟩
        have o3' := own_keep (w' := w4) o3 (fun q e => b4.block q (o3.lt q e).2)
        have C3 := same_walk t t v3 v4 w4 (ints_own o3') (ints_own o4) rfl (by omega)
        rw [decide_eq_true rfl] at C3
        clear C C2
        go_wp2_with fail
        refine C3.mono ?_
        rintro e w5 ⟨rfl, b5⟩
        have b35 : Below wr.heap.size wr w5 := bthen b3 b3.size (bthen b4 b4.size b5)
        have b6 := bthen b1 b1.size (bthen hb hb.size b35)
        go_wp2_with fail
        go_ret
        exact ⟨rfl, b6⟩
end Go.Proofs.Yteknjkofmkigoab.H
