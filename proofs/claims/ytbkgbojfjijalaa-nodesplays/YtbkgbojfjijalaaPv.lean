/- The walk of Put, on. -/
import Derived.Test.YtbkgbojfjijalaaPu
namespace Go.Proofs.Ytbkgbojfjijalaa
open Go.RowKit

abbrev putW (w : World) (k v : V) : World := (((w.alloc (vb k.1 k.2.1 k.2.2)).alloc (vb v.1 v.2.1 v.2.2)).alloc (vb k.1 k.2.1 k.2.2)).alloc (vb v.1 v.2.1 v.2.2)
theorem putW_below (w : World) (k v : V) : Below w.heap.size w (putW w k v) := bthen (bthen (b2 w (vb k.1 k.2.1 k.2.2) (vb v.1 v.2.1 v.2.2)) (by simp; omega) (b1 _ (vb k.1 k.2.1 k.2.2))) (by simp; omega) (b1 _ (vb v.1 v.2.1 v.2.2))
theorem putW_k (w : World) (k v : V) : Bx (putW w k v) w.heap.size k := (((Bx.made w k).below (b1 _ _)).below (b1 _ _)).below (b1 _ _)
theorem putW_v (w : World) (k v : V) : Bx (putW w k v) (w.heap.size + 1) v := by
  have h0 := ((Bx.made (w.alloc (vb k.1 k.2.1 k.2.2)) v).below (b1 _ (vb k.1 k.2.1 k.2.2))).below (b1 _ (vb v.1 v.2.1 v.2.2))
  have e : (w.alloc (vb k.1 k.2.1 k.2.2)).heap.size = w.heap.size + 1 := by simp
  rw [e] at h0
  exact h0

set_option maxHeartbeats 2000000 in
theorem put_zero {p : Value} {z : Int} (k v : V) (w : World) (hS0 : ∀ W, Below w.heap.size w W → Calls Try.prog 14 #[p] W fun e w' => e = .returned (.int .i64 z) ∧ w' = W) (hf : fm k = true ∧ fm v = true) (hk : k.1 ≠ 0) (hr : Rng k) (hz : pw z = false) :
    Calls Try.prog 12 #[p, vl k.1 k.2.1 k.2.2, vl v.1 v.2.1 v.2.2] w fun e w' => e = .returned (.tuple #[.int .i64 0, .int .i64 (if v.1 = 0 then 0 else 12)]) ∧ Below w.heap.size w w' := by
  have C1 := check_any k.1 k.2.1 k.2.2
  have C2 := check_any v.1 v.2.1 v.2.2
  rw [chk_of, if_pos hf.1] at C1
  rw [chk_of, if_pos hf.2] at C2
  have X1 := putW_k w k v
  have X2 := putW_v w k v
  have B0 := putW_below w k v
  obtain ⟨W0, hW0⟩ : ∃ W0, putW w k v = W0 := ⟨_, rfl⟩
  rw [hW0] at X1 X2 B0
  have CF := find_bad k W0 (fun W hW => hS0 W (bthen B0 B0.size hW)) hr.1 hr.2 (mnE_bad (.inl hz))
  have CI := fun W (hW : Below w.heap.size w W) => insert_bad k v W (fun W' hW' => hS0 W' (bthen hW hW.size hW')) hr.1 hr.2 (mnE_bad (.inl hz))
  have HX1 : Hid _ := X1
  have HX2 : Hid _ := X2
  have HB0 : Hid _ := B0
  have d0 := X1.c0
  have d1 := X1.c1
  have d2 := X1.c2
  obtain ⟨E, hE⟩ : ∃ E, (if v.1 = 0 then (0 : Int) else 12) = E := ⟨_, rfl⟩
  rw [hE]
  have HE : Hid _ := hE
  clear hf hr hz X1 X2 B0 hS0 hE
  unfold putW at hW0
  unfold vl vb at *
  generalize hsz : w.heap.size = B at *
  have hsz2 : (w.alloc (.cells #[.int .i64 k.1, .int .i64 k.2.1, .string k.2.2] 32)).heap.size = B + 1 := by rw [← hsz]; simp
  have HSZ : Hid (w.heap.size = B) := hsz
  go_enter Try.func12, Try.ntmps12
  go_wp2_with fail
  refine (C1 _).mono ?_; rintro e w' ⟨rfl, rfl⟩
  go_wp2_with fail
  refine (C2 _).mono ?_; rintro e w' ⟨rfl, rfl⟩
  go_wp2_with fail
  refine CF.mono ?_; rintro e W1 ⟨rfl, hb⟩
  have hb1 : Below B w W1 := bthen HB0.out (HSZ.out ▸ HB0.out.size) hb
  have Y1 := HX1.out.below hb
  have Y2 := HX2.out.below hb
  have q0 := Y1.c0
  have q1 := Y1.c1
  have q2 := Y1.c2
  have v0 := Y2.c0
  have v1 := Y2.c1
  have v2 := Y2.c2
  have CI1 := CI W1 hb1
  have HB1 : Hid _ := hb1
  clear CI hb hb1 Y1 Y2 CF
  by_cases hv : v.1 = 0
  · have e1 : Hid (E = 0) := by rw [← HE.out, if_pos hv]; rfl
    clear HE
    go_wp2_with fail
    go_ret2
    rw [e1.out]
    exact ⟨rfl, HSZ.out ▸ HB1.out⟩
  · have e1 : Hid (E = 12) := by rw [← HE.out, if_neg hv]; rfl
    clear HE
    go_wp2_with fail
    refine CI1.mono ?_; rintro e W2 ⟨rfl, hb⟩
    go_wp2_with fail
    go_ret2
    rw [e1.out]
    exact ⟨rfl, bthen HB1.out (HSZ.out ▸ HB1.out.size) hb⟩

theorem nf_setX {z : Nat} {g : G} {i0 : Nat} (v : V) (i j : Nat) (hj : j < 7) :
    (if i = i0 ∧ j = 5 then Value.string v.2.2 else if i = i0 ∧ j = 4 then .int .i64 v.2.1 else if i = i0 ∧ j = 3 then .int .i64 v.1 else nf (pl z) g i j) = nf (pl z) (setX g i0 v) i j := by
  unfold nf
  rw [link_setX]
  by_cases e : i = i0
  · have hX : (setX g i0 v).X i = v := by rw [e]; exact upd_at _ _ _
    have hK : (setX g i0 v).K i = g.K i := rfl
    rw [hX, hK]
    rcases lt7 hj with rfl | rfl | rfl | rfl | rfl | rfl | rfl <;> simp [nc, e]
  · have hX : (setX g i0 v).X i = g.X i := upd_ne _ _ e
    have hK : (setX g i0 v).K i = g.K i := rfl
    rw [hX, hK]
    simp [e]

set_option maxHeartbeats 2000000 in
theorem put_good {b a z : Nat} {g : G} (k v : V) (w : World) (h : Pt w b a z g) (hi : Inv z (pl z) KOK g) (hz : pw z = true) (hk : KOK k) (hv : fm v = true) :
    Calls Try.prog 12 #[pp b, vl k.1 k.2.1 k.2.2, vl v.1 v.2.1 v.2.2] w fun e w' => e = .returned (.tuple #[.int .i64 ((put z g k v).2.1 : Nat), .int .i64 (put z g k v).2.2]) ∧ Pt w' b a z (put z g k v).1 ∧ Keep (fun x => x ≠ a ∧ x ≠ b) w w' := by
  have C1 := check_any k.1 k.2.1 k.2.2
  have C2 := check_any v.1 v.2.1 v.2.2
  rw [chk_of, if_pos (show fm k = true from hk.1)] at C1
  rw [chk_of, if_pos hv] at C2
  have hk0 := hk.2.1
  have hz0 : z ≠ 0 := by have := (pw_bounds z hz).1; omega
  have X1 := putW_k w k v
  have X2 := putW_v w k v
  have B0 := putW_below w k v
  obtain ⟨W0, hW0⟩ : ∃ W0, putW w k v = W0 := ⟨_, rfl⟩
  rw [hW0] at X1 X2 B0
  have P0 := h.below B0
  have CF := find_any k W0 P0 hi hz hk
  have CI := fun W (P : Pt W b a z g) => insert_any k v W P hi hz hk
  have HX1 : Hid _ := X1
  have HX2 : Hid _ := X2
  have HB0 : Hid _ := B0
  have HP0 : Hid _ := P0
  have HR : Hid (put z g k v = match find (pl z) g k with
      | (some i, n) => (setX g i v, n, 0)
      | (none, n) => if v.1 = 0 then (g, n, 0) else ((ins (pl z) g k v).1, n, full (ins (pl z) g k v).2)) := by
    show _ = _
    rw [put, if_pos ⟨hk.1, hv⟩, if_neg hk0, if_neg hz0]
    rfl
  have HFS : Hid (∀ i n, find (pl z) g k = (some i, n) → i < z) := fun i n hf => (hi.find_some (fun k _ => pl_lt hz k) hk hf).2.1
  have d0 := X1.c0
  have d1 := X1.c1
  have d2 := X1.c2
  have HLT : Hid (b < w.heap.size ∧ a < w.heap.size) := ⟨h.ltb, h.lta⟩
  clear hv X1 X2 B0 P0 h hi hz hk
  unfold putW at hW0
  unfold pp vl vb at *
  generalize hsz : w.heap.size = B at *
  have hsz2 : (w.alloc (.cells #[.int .i64 k.1, .int .i64 k.2.1, .string k.2.2] 32)).heap.size = B + 1 := by rw [← hsz]; simp
  have HSZ : Hid (w.heap.size = B) := hsz
  go_enter Try.func12, Try.ntmps12
  go_wp2_with fail
  refine (C1 _).mono ?_; rintro e w' ⟨rfl, rfl⟩
  go_wp2_with fail
  refine (C2 _).mono ?_; rintro e w' ⟨rfl, rfl⟩
  go_wp2_with fail
  refine CF.mono ?_; rintro e W1 ⟨rfl, hb⟩
  have hb1 : Below B w W1 := bthen HB0.out (HSZ.out ▸ HB0.out.size) hb
  have Y1 := HX1.out.below hb
  have Y2 := HX2.out.below hb
  have P1 := HP0.out.below hb
  have q0 := Y1.c0
  have q1 := Y1.c1
  have q2 := Y1.c2
  have v0 := Y2.c0
  have v1 := Y2.c1
  have v2 := Y2.c2
  have CI1 := CI W1 P1
  have HB1 : Hid _ := hb1
  have HP1 : Hid _ := P1
  clear CI hb hb1 Y1 Y2 CF P1
  cases hf : find (pl z) g k with
  | mk o n =>
    cases o with
    | some i =>
      have hiz := HFS.out i n hf
      have hiz' : (i : Int) < (z : Int) := by omega
      have HR2 : Hid (put z g k v = (setX g i v, n, 0)) := by have h0 := HR.out; rw [hf] at h0; exact h0
      have hi0 : ¬ ((i : Int) < 0) := by omega
      have c1 := HP1.out.all
      obtain ⟨y0, y1, y2, y3, y4, y5, y6, n0, n1, n2, n3, n4, n5, n6⟩ := HP1.out.n hiz
      have fz := HP1.out.fa
      clear hf HR CI1
      have P2 : Hid _ := ((HP1.out.q.set hiz (j0 := 3) (by omega) (.int .i64 v.1)).set hiz (j0 := 4) (by omega) (.int .i64 v.2.1)).set hiz (j0 := 5) (by omega) (.string v.2.2)
      have K2 : Hid _ := ((((Keep.of (No := fun x => x ≠ a ∧ x ≠ b) (HSZ.out ▸ HB1.out)).set (p := ⟨a, i * 7 + 3, none⟩) (fun x => x.1 rfl) (.int .i64 v.1)).set (p := ⟨a, i * 7 + 4, none⟩) (fun x => x.1 rfl) (.int .i64 v.2.1)).set (p := ⟨a, i * 7 + 5, none⟩) (fun x => x.1 rfl) (.string v.2.2))
      obtain ⟨W2, hW2⟩ : ∃ W2, ((W1.setCell ⟨a, i * 7 + 3, none⟩ (.int .i64 v.1)).setCell ⟨a, i * 7 + 4, none⟩ (.int .i64 v.2.1)).setCell ⟨a, i * 7 + 5, none⟩ (.string v.2.2) = W2 := ⟨_, rfl⟩
      rw [hW2] at P2 K2
      simp only [fi]
      go_wp2_with fail
      refine wp_tail 8 (by kernel_rfl) (by kernel_rfl) ?_
      simp only [List.take_succ_cons, List.take_zero, List.drop_succ_cons, List.drop_zero]
      repeat still_step
      refine wpStill_nil ?_
      go_wp2_with fail
      go_ret2
      rw [HR2.out]
      exact ⟨rfl, (P2.out.below (bdrew1 _)).pt (fun i _ j hj => nf_setX v i j hj) rfl, K2.out.bel (bdrew1 _)⟩
    | none =>
      have HR2 : Hid (put z g k v = if v.1 = 0 then (g, n, 0) else ((ins (pl z) g k v).1, n, full (ins (pl z) g k v).2)) := by have h0 := HR.out; rw [hf] at h0; exact h0
      clear hf HR
      simp only [fi]
      by_cases hv : v.1 = 0
      · have HR3 : Hid _ := HR2.out.trans (if_pos hv)
        clear HR2
        go_wp2_with fail
        go_ret2
        rw [HR3.out]
        exact ⟨rfl, HP1.out, Keep.of (HSZ.out ▸ HB1.out)⟩
      · have HR3 : Hid _ := HR2.out.trans (if_neg hv)
        clear HR2
        go_wp2_with fail
        refine CI1.mono ?_; rintro e W2 ⟨rfl, P2, K2⟩
        have HP2 : Hid _ := P2
        have HK2 : Hid _ := K2
        clear P2 K2 CI1
        go_wp2_with fail
        go_ret2
        rw [HR3.out]
        exact ⟨rfl, HP2.out, (Keep.of (HSZ.out ▸ HB1.out)).trans HK2.out⟩
end Go.Proofs.Ytbkgbojfjijalaa
