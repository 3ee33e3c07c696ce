/- The walk of Put, on. -/
import Derived.Test.YtpmmploedkbeoaaGreatDoorCg03
import Derived.Laws.OwnMore
import Derived.Test.YtpmmploedkbeoaaGreatDoorCg00
namespace Go.Proofs.YtpmmploedkbeoaaGreatDoor
open Go.RowKit

abbrev putW (w : World) (k v : V) : World := (((w.alloc (vb k.1 k.2.1 k.2.2)).alloc (vb v.1 v.2.1 v.2.2)).alloc (vb k.1 k.2.1 k.2.2)).alloc (vb v.1 v.2.1 v.2.2)
theorem putW_below (w : World) (k v : V) : Below w.heap.size w (putW w k v) := bthen (bthen (b2 w (vb k.1 k.2.1 k.2.2) (vb v.1 v.2.1 v.2.2)) (by simp; omega) (b1 _ (vb k.1 k.2.1 k.2.2))) (by simp; omega) (b1 _ (vb v.1 v.2.1 v.2.2))
theorem putW_k (w : World) (k v : V) : Bx (putW w k v) w.heap.size k := (((Bx.made w k).below (b1 _ _)).below (b1 _ _)).below (b1 _ _)
theorem putW_v (w : World) (k v : V) : Bx (putW w k v) (w.heap.size + 1) v := by
  have h0 := ((Bx.made (w.alloc (vb k.1 k.2.1 k.2.2)) v).below (b1 _ (vb k.1 k.2.1 k.2.2))).below (b1 _ (vb v.1 v.2.1 v.2.2))
  have e : (w.alloc (vb k.1 k.2.1 k.2.2)).heap.size = w.heap.size + 1 := by simp
  rw [e] at h0
  exact h0

set_option maxRecDepth 20000 in
set_option maxHeartbeats 2000000 in
theorem put_zero {p : Value} {z : Int} (k v : V) (w : World) (hS0 : ∀ W, Below w.heap.size w W → Calls Tryz.prog 111 #[p] W fun e w' => e = .returned (.int .i64 z) ∧ w' = W) (hf : fm k = true ∧ fm v = true) (hk : k.1 ≠ 0) (hr : Rng k) (hz : pw z = false) :
    Calls Tryz.prog 104 #[p, vl k.1 k.2.1 k.2.2, vl v.1 v.2.1 v.2.2] w fun e w' => e = .returned (.tuple #[.int .i64 0, .int .i64 (if v.1 = 0 then 0 else 12)]) ∧ Below w.heap.size w w' := by
  have C1 := check_any k.1 k.2.1 k.2.2
  have C2 := check_any v.1 v.2.1 v.2.2
  rw [chk_of, if_pos hf.1] at C1
  rw [chk_of, if_pos hf.2] at C2
  have X1 := putW_k w k v
  have X2 := putW_v w k v
  have B0 := putW_below w k v
  obtain ⟨W0, hW0⟩ : ∃ W0, putW w k v = W0 := ⟨_, rfl⟩
  rw [hW0] at X1 X2 B0
  have CF := find_bad k W0 (fun W hW => hS0 W (bthen B0 B0.size hW)) hr.1 hr.2 (mnE_bad (.inl hz))
  have CI := fun W (hW : Below w.heap.size w W) => insert_bad k v W (fun W' hW' => hS0 W' (bthen hW hW.size hW')) hr.1 hr.2 (mnE_bad (.inl hz))
  have HX1 : Hid _ := X1
  have HX2 : Hid _ := X2
  have HB0 : Hid _ := B0
  have d0 := X1.c0
  have d1 := X1.c1
  have d2 := X1.c2
  obtain ⟨E, hE⟩ : ∃ E, (if v.1 = 0 then (0 : Int) else 12) = E := ⟨_, rfl⟩
  rw [hE]
  have HE : Hid _ := hE
  clear hf hr hz X1 X2 B0 hS0 hE
  unfold putW at hW0
  unfold vl vb at *
  generalize hsz : w.heap.size = B at *
  have hsz2 : (w.alloc (.cells #[.int .i64 k.1, .int .i64 k.2.1, .string k.2.2] 37)).heap.size = B + 1 := by rw [← hsz]; simp
  have HSZ : Hid (w.heap.size = B) := hsz
  go_enter Tryz.func104, Tryz.ntmps104
  go_wp2_with fail
  refine (C1 _).mono ?_; rintro e w' ⟨rfl, rfl⟩
  go_wp2_with fail
  refine (C2 _).mono ?_; rintro e w' ⟨rfl, rfl⟩
  go_wp2_with fail
  refine CF.mono ?_; rintro e W1 ⟨rfl, hb⟩
  have hb1 : Below B w W1 := bthen HB0.out (HSZ.out ▸ HB0.out.size) hb
  have Y1 := HX1.out.below hb
  have Y2 := HX2.out.below hb
  have q0 := Y1.c0
  have q1 := Y1.c1
  have q2 := Y1.c2
  have v0 := Y2.c0
  have v1 := Y2.c1
  have v2 := Y2.c2
  have CI1 := CI W1 hb1
  have HB1 : Hid _ := hb1
  clear CI hb hb1 Y1 Y2 CF
  by_cases hv : v.1 = 0
  · have e1 : Hid (E = 0) := by rw [← HE.out, if_pos hv]; rfl
    clear HE
    go_wp2_with fail
    go_ret2
    rw [e1.out]
    exact ⟨rfl, HSZ.out ▸ HB1.out⟩
  · have e1 : Hid (E = 12) := by rw [← HE.out, if_neg hv]; rfl
    clear HE
    go_wp2_with fail
    refine CI1.mono ?_; rintro e W2 ⟨rfl, hb⟩
    go_wp2_with fail
    go_ret2
    rw [e1.out]
    exact ⟨rfl, bthen HB1.out (HSZ.out ▸ HB1.out.size) hb⟩

theorem nf_setX {z : Nat} {g : G} {i0 : Nat} (v : V) (i j : Nat) (hj : j < 7) :
    (if i = i0 ∧ j = 5 then Value.string v.2.2 else if i = i0 ∧ j = 4 then .int .i64 v.2.1 else if i = i0 ∧ j = 3 then .int .i64 v.1 else nf (pl z) g i j) = nf (pl z) (setX g i0 v) i j := by
  unfold nf
  rw [link_setX]
  by_cases e : i = i0
  · have hX : (setX g i0 v).X i = v := by rw [e]; exact upd_at _ _ _
    have hK : (setX g i0 v).K i = g.K i := rfl
    rw [hX, hK]
    rcases lt7 hj with rfl | rfl | rfl | rfl | rfl | rfl | rfl <;> simp [nc, e]
  · have hX : (setX g i0 v).X i = g.X i := upd_ne _ _ e
    have hK : (setX g i0 v).K i = g.K i := rfl
    rw [hX, hK]
    simp [e]

set_option maxRecDepth 20000 in
set_option maxHeartbeats 2000000 in
theorem put_good {b a z : Nat} {g : G} (k v : V) (w : World) (h : Pt w b a z g) (hi : Inv z (pl z) KOK g) (hz : pw z = true) (hk : KOK k) (hv : fm v = true) :
    Calls Tryz.prog 104 #[pp b, vl k.1 k.2.1 k.2.2, vl v.1 v.2.1 v.2.2] w fun e w' => e = .returned (.tuple #[.int .i64 ((put z g k v).2.1 : Nat), .int .i64 (put z g k v).2.2]) ∧ Pt w' b a z (put z g k v).1 ∧ Keep (fun x => x ≠ a ∧ x ≠ b) w w' := by
  have C1 := check_any k.1 k.2.1 k.2.2
  have C2 := check_any v.1 v.2.1 v.2.2
  rw [chk_of, if_pos (show fm k = true from hk.1)] at C1
  rw [chk_of, if_pos hv] at C2
  have hk0 := hk.2.1
  have hz0 : z ≠ 0 := by have := (pw_bounds z hz).1; omega
  have X1 := putW_k w k v
  have X2 := putW_v w k v
  have B0 := putW_below w k v
  obtain ⟨W0, hW0⟩ : ∃ W0, putW w k v = W0 := ⟨_, rfl⟩
  rw [hW0] at X1 X2 B0
  have P0 := h.below B0
  have CF := find_any k W0 P0 hi hz hk
  have CI := fun W (P : Pt W b a z g) => insert_any k v W P hi hz hk
  have HX1 : Hid _ := X1
  have HX2 : Hid _ := X2
  have HB0 : Hid _ := B0
  have HP0 : Hid _ := P0
  have HR : Hid (put z g k v = match find (pl z) g k with
      | (some i, n) => (setX g i v, n, 0)
      | (none, n) => if v.1 = 0 then (g, n, 0) else ((ins (pl z) g k v).1, n, full (ins (pl z) g k v).2)) := by
    show _ = _
    rw [put, if_pos ⟨hk.1, hv⟩, if_neg hk0, if_neg hz0]
    rfl
  have HFS : Hid (∀ i n, find (pl z) g k = (some i, n) → i < z) := fun i n hf => (hi.find_some (fun k _ => pl_lt hz k) hk hf).2.1
  have d0 := X1.c0
  have d1 := X1.c1
  have d2 := X1.c2
  have HLT : Hid (b < w.heap.size ∧ a < w.heap.size) := ⟨h.ltb, h.lta⟩
  clear hv X1 X2 B0 P0 h hi hz hk
  unfold putW at hW0
  unfold pp vl vb at *
  generalize hsz : w.heap.size = B at *
  have hsz2 : (w.alloc (.cells #[.int .i64 k.1, .int .i64 k.2.1, .string k.2.2] 37)).heap.size = B + 1 := by rw [← hsz]; simp
  have HSZ : Hid (w.heap.size = B) := hsz
  go_enter Tryz.func104, Tryz.ntmps104
  go_wp2_with fail
  refine (C1 _).mono ?_; rintro e w' ⟨rfl, rfl⟩
  go_wp2_with fail
  refine (C2 _).mono ?_; rintro e w' ⟨rfl, rfl⟩
  go_wp2_with fail
  refine CF.mono ?_; rintro e W1 ⟨rfl, hb⟩
  have hb1 : Below B w W1 := bthen HB0.out (HSZ.out ▸ HB0.out.size) hb
  have Y1 := HX1.out.below hb
  have Y2 := HX2.out.below hb
  have P1 := HP0.out.below hb
  have q0 := Y1.c0
  have q1 := Y1.c1
  have q2 := Y1.c2
  have v0 := Y2.c0
  have v1 := Y2.c1
  have v2 := Y2.c2
  have CI1 := CI W1 P1
  have HB1 : Hid _ := hb1
  have HP1 : Hid _ := P1
  clear CI hb hb1 Y1 Y2 CF P1
  cases hf : find (pl z) g k with
  | mk o n =>
    cases o with
    | some i =>
      have hiz := HFS.out i n hf
      have hiz' : (i : Int) < (z : Int) := by omega
      have HR2 : Hid (put z g k v = (setX g i v, n, 0)) := by have h0 := HR.out; rw [hf] at h0; exact h0
      have hi0 : ¬ ((i : Int) < 0) := by omega
      have c1 := HP1.out.all
      obtain ⟨y0, y1, y2, y3, y4, y5, y6, n0, n1, n2, n3, n4, n5, n6⟩ := HP1.out.n hiz
      have fz := HP1.out.fa
      clear hf HR CI1
      have P2 : Hid _ := ((HP1.out.q.set hiz (j0 := 3) (by omega) (.int .i64 v.1)).set hiz (j0 := 4) (by omega) (.int .i64 v.2.1)).set hiz (j0 := 5) (by omega) (.string v.2.2)
      have K2 : Hid _ := ((((Keep.of (No := fun x => x ≠ a ∧ x ≠ b) (HSZ.out ▸ HB1.out)).set (p := ⟨a, i * 7 + 3, none⟩) (fun x => x.1 rfl) (.int .i64 v.1)).set (p := ⟨a, i * 7 + 4, none⟩) (fun x => x.1 rfl) (.int .i64 v.2.1)).set (p := ⟨a, i * 7 + 5, none⟩) (fun x => x.1 rfl) (.string v.2.2))
      obtain ⟨W2, hW2⟩ : ∃ W2, ((W1.setCell ⟨a, i * 7 + 3, none⟩ (.int .i64 v.1)).setCell ⟨a, i * 7 + 4, none⟩ (.int .i64 v.2.1)).setCell ⟨a, i * 7 + 5, none⟩ (.string v.2.2) = W2 := ⟨_, rfl⟩
      rw [hW2] at P2 K2
      simp only [fi]
      go_wp2_with fail
      refine wp_tail 8 (by kernel_rfl) (by kernel_rfl) ?_
      simp only [List.take_succ_cons, List.take_zero, List.drop_succ_cons, List.drop_zero]
      repeat still_step
      refine wpStill_nil ?_
      go_wp2_with fail
      go_ret2
      rw [HR2.out]
      exact ⟨rfl, (P2.out.below (bdrew1 _)).pt (fun i _ j hj => nf_setX v i j hj) rfl, K2.out.bel (bdrew1 _)⟩
    | none =>
      have HR2 : Hid (put z g k v = if v.1 = 0 then (g, n, 0) else ((ins (pl z) g k v).1, n, full (ins (pl z) g k v).2)) := by have h0 := HR.out; rw [hf] at h0; exact h0
      clear hf HR
      simp only [fi]
      by_cases hv : v.1 = 0
      · have HR3 : Hid _ := HR2.out.trans (if_pos hv)
        clear HR2
        go_wp2_with fail
        go_ret2
        rw [HR3.out]
        exact ⟨rfl, HP1.out, Keep.of (HSZ.out ▸ HB1.out)⟩
      · have HR3 : Hid _ := HR2.out.trans (if_neg hv)
        clear HR2
        go_wp2_with fail
        refine CI1.mono ?_; rintro e W2 ⟨rfl, P2, K2⟩
        have HP2 : Hid _ := P2
        have HK2 : Hid _ := K2
        clear P2 K2 CI1
        go_wp2_with fail
        go_ret2
        rw [HR3.out]
        exact ⟨rfl, HP2.out, (Keep.of (HSZ.out ▸ HB1.out)).trans HK2.out⟩
end Go.Proofs.YtpmmploedkbeoaaGreatDoor

/- The walks of New, At, Get. -/
namespace Go.Proofs.YtpmmploedkbeoaaGreatDoor
open Go.RowKit

/-- An empty part. -/
def g0 (z : Nat) : G := { K := fun _ => nil, X := fun _ => nil, C := fun _ => [], f := z }
theorem g0_inv (z : Nat) (pl : V → Nat) : Inv z pl KOK (g0 z) :=
  ⟨fun _ _ => .inl rfl, fun _ _ _ => rfl, fun _ _ _ h => (by cases h), fun _ _ => List.nodup_nil, fun _ _ => .inl rfl, fun _ _ h => absurd rfl h, fun _ _ _ _ h _ => absurd rfl h, Nat.le_refl _, fun i hi hf => absurd hi (by show ¬ i < z; exact Nat.not_lt.2 hf)⟩
theorem nf_g0 (z i j : Nat) : nf (pl z) (g0 z) i j = nc nil nil 0 j := by
  unfold nf
  rw [link_no (g := g0 z) rfl]
  rfl
theorem cell_of_row {w : World} {g : Nat} {cs : Array Value} {t : TypeId} (h : w.heap[g]? = some (.cells cs t)) (i : Nat) : w.cell? ⟨g, i, none⟩ = cs[i]? := by
  unfold World.cell?
  rw [h]
  simp
theorem new_free (w : World) (cs : Array Value) (t : TypeId) (i : Nat) : (w.alloc (.cells cs t)).frozen? ⟨w.heap.size, i, none⟩ = false := by
  unfold World.frozen?
  rw [(MapKept.heap_alloc w _).1]
  simp
theorem info54 : (Tryz.prog.info? 203).map (fun i => (i.zero, i.size, i.bytes)) = some (some (vn nil nil 0), 7, 72) := by kernel_rfl
abbrev zeros7 (n : Nat) : Array Value := madeCells (vn nil nil 0).cells (n * 7)
theorem made_node (w : World) (n : Nat) : Rc (w.alloc (.cells (zeros7 n) 203)) w.heap.size n (fun _ j => nc nil nil 0 j) := ⟨fun i hi j hj => by
  rw [cell_of_row (MapKept.heap_alloc w _).1]
  have h : i * 7 + j < n * 7 := by omega
  have hm : (i * 7 + j) % 7 = j := by omega
  have h' : i * 7 < n * 7 := by omega
  rcases lt7 hj with rfl | rfl | rfl | rfl | rfl | rfl | rfl <;> simp [zeros7, madeCells, Value.cells, nc, h, h', hm]⟩
theorem make_node (m : Nat) (hm : m ≤ 65536) (W : World) : (Instr.makeSlice 243 (.int .i64 m) (.int .i64 m)).run Tryz.prog W = .ok (.slice (some ⟨W.heap.size, 0, none⟩) m m) (W.alloc (.cells (zeros7 m) 203)) := by
  obtain ⟨i0, hi, hz0, hz1, hz2⟩ := info_parts info54
  have h := run_make (P := Tryz.prog) W 243 203 i0 (vn nil nil 0) Tryz.underlying243 hi hz0 .i64 .i64 m m (by omega) (Int.le_refl _) (by rw [hz2]; omega) (by omega)
  rw [hz1] at h
  simpa using h

abbrev newW (w : World) (z : Nat) : World := (w.alloc (.cells (zeros7 z) 203)).alloc (.cells #[.slice (some ⟨w.heap.size, 0, none⟩) z z, .int .i64 (z : Nat)] 245)
theorem newW_below (w : World) (z : Nat) : Below w.heap.size w (newW w z) := b2 _ _ _
theorem newW_pt (w : World) (z : Nat) : Pt (newW w z) (w.heap.size + 1) w.heap.size z (g0 z) := by
  have hs : (w.alloc (.cells (zeros7 z) 203)).heap.size = w.heap.size + 1 := by simp
  have hb := b1 (w.alloc (.cells (zeros7 z) 203)) (.cells #[.slice (some ⟨w.heap.size, 0, none⟩) z z, .int .i64 (z : Nat)] 245)
  refine ⟨?_, ?_, ?_, fun j => ?_, fun j => ?_, by omega, by simp, by simp; omega⟩
  · have h0 := cell_of_row (MapKept.heap_alloc (w.alloc (.cells (zeros7 z) 203)) (.cells #[.slice (some ⟨w.heap.size, 0, none⟩) z z, .int .i64 (z : Nat)] 245)).1 0
    rw [hs] at h0; exact h0
  · have h0 := cell_of_row (MapKept.heap_alloc (w.alloc (.cells (zeros7 z) 203)) (.cells #[.slice (some ⟨w.heap.size, 0, none⟩) z z, .int .i64 (z : Nat)] 245)).1 1
    rw [hs] at h0; exact h0
  · exact ((made_node w z).block (hb.block _ (by rw [hs]; omega))).congr fun i _ j _ => (nf_g0 z i j).symm
  · have h0 := new_free (w.alloc (.cells (zeros7 z) 203)) #[.slice (some ⟨w.heap.size, 0, none⟩) z z, .int .i64 (z : Nat)] 245 j
    rw [hs] at h0; exact h0
  · rw [hb.frozen (by rw [hs]; exact Nat.lt_succ_self _)]; exact new_free w _ _ j

def rt (z : Int) : Bool := decide (z = 0) || pw z
theorem Rt.of {z : Int} (h : rt z = true) : ∃ n : Nat, z = n ∧ Rt n := by
  simp only [rt, Bool.or_eq_true, decide_eq_true_eq] at h
  rcases h with h | h
  · exact ⟨0, h, .inl rfl⟩
  · exact ⟨z.toNat, by have := pw_bounds z h; omega, .inr (by rw [show ((z.toNat : Nat) : Int) = z by have := pw_bounds z h; omega]; exact h)⟩
theorem Rt.to {n : Nat} (h : Rt n) : rt n = true := by
  simp only [rt, Bool.or_eq_true, decide_eq_true_eq]
  rcases h with h | h
  · exact .inl (by rw [h]; rfl)
  · exact .inr h
theorem and0 : bits .and .i64 0 (-1) = 0 := by decide
theorem and_pw {z : Int} (h : 1 ≤ z ∧ z ≤ 65536) : bits .and .i64 z (z - 1) = ((z.toNat &&& (z.toNat - 1) : Nat) : Int) := by
  have := i64_and_nat z.toNat (z.toNat - 1) (by omega) (by omega)
  rw [show ((z.toNat : Nat) : Int) = z by omega, show ((z.toNat - 1 : Nat) : Int) = z - 1 by omega] at this
  exact this

set_option maxRecDepth 20000 in
set_option maxHeartbeats 2000000 in
theorem new_any (n : Nat) (w : World) (h : Rt n) : Calls Tryz.prog 143 #[.int .i64 (n : Nat)] w fun e w' => e = .returned (.tuple #[pp (w.heap.size + 1), .int .i64 0]) ∧ w' = newW w n := by
  have hle := h.le
  have hmk := make_node n hle w
  have hs : (w.alloc (.cells (zeros7 n) 203)).heap.size = w.heap.size + 1 := by simp
  obtain ⟨W1, hW1⟩ : ∃ W1, w.alloc (.cells (zeros7 n) 203) = W1 := ⟨_, rfl⟩
  have HW : Hid (newW w n = W1.alloc (.cells #[.slice (some ⟨w.heap.size, 0, none⟩) n n, .int .i64 (n : Nat)] 245)) := by show _ = _; rw [newW, hW1]
  rw [hW1] at hmk hs
  rw [HW.out]
  clear hW1 HW
  unfold pp
  rcases h with rfl | h
  · have ha := and0
    have hmk' : (Instr.makeSlice 243 (.int .i64 0) (.int .i64 0)).run Tryz.prog w = .ok (.slice (some ⟨w.heap.size, 0, none⟩) 0 0) W1 := hmk
    clear hmk
    show Calls Tryz.prog 143 #[.int .i64 0] w fun e w' => e = .returned (.tuple #[.pointer (some ⟨w.heap.size + 1, 0, none⟩), .int .i64 0]) ∧ w' = W1.alloc (.cells #[.slice (some ⟨w.heap.size, 0, none⟩) 0 0, .int .i64 0] 245)
    go_enter Tryz.func143, Tryz.ntmps143
    go_wp2
    go_ret2
    exact ⟨rfl, rfl⟩
  · have hb := pw_bounds n h
    have ha : bits .and .i64 (n : Int) ((n : Int) - 1) = 0 := by
      rw [and_pw hb]
      simp only [pw, Bool.and_eq_true, decide_eq_true_eq] at h
      rw [h.2]; rfl
    clear h
    go_enter Tryz.func143, Tryz.ntmps143
    go_wp2
    go_ret2
    exact ⟨rfl, rfl⟩

set_option maxRecDepth 20000 in
set_option maxHeartbeats 2000000 in
theorem new_bad (z : Int) (w : World) (h : rt z = false) : Calls Tryz.prog 143 #[.int .i64 z] w fun e w' => e = .returned (.tuple #[.pointer none, .int .i64 1]) ∧ w' = w := by
  simp only [rt, Bool.or_eq_false_iff, decide_eq_false_iff_not] at h
  obtain ⟨h0, hp⟩ := h
  by_cases hb : 1 ≤ z ∧ z ≤ 65536
  · have ha : Hid (bits .and .i64 z (z - 1) ≠ 0) := by
      show _ ≠ _
      rw [and_pw hb]
      intro e
      have e2 : z.toNat &&& (z.toNat - 1) = 0 := by omega
      have : pw z = true := by simp only [pw, Bool.and_eq_true, decide_eq_true_eq]; exact ⟨hb, e2⟩
      rw [hp] at this
      cases this
    obtain ⟨h1, h2⟩ := hb
    have ha2 : (bits .and .i64 z (z - 1) != 0) = true := by simpa using ha.out
    clear hp h0
    go_enter Tryz.func143, Tryz.ntmps143
    go_wp2
    all_goals (go_ret2; exact ⟨rfl, rfl⟩)
  · clear hp
    go_enter Tryz.func143, Tryz.ntmps143
    go_wp2
    all_goals first
      | (go_ret2; exact ⟨rfl, rfl⟩)
      | (exfalso; omega)

/-- A node that At answers. -/
abbrev nn (g : G) (z : Nat) (i : Int) : Value := if 0 ≤ i ∧ i < z then vn (g.K i.toNat) (g.X i.toNat) (link (pl z) g i.toNat) else vn nil nil 0
set_option maxRecDepth 20000 in
set_option maxHeartbeats 2000000 in
theorem at_in {b a z : Nat} {g : G} (i : Nat) (w : World) (h : Pt w b a z g) (hi : i < z) :
    Calls Tryz.prog 103 #[pp b, .int .i64 (i : Nat)] w fun e w' => e = .returned (vn (g.K i) (g.X i) (link (pl z) g i)) ∧ Below w.heap.size w w' := by
  have HW : Hid (Below w.heap.size w (w.alloc (.cells #[.int .i64 (g.K i).1, .int .i64 (g.K i).2.1, .string (g.K i).2.2, .int .i64 (g.X i).1, .int .i64 (g.X i).2.1, .string (g.X i).2.2, .int .i64 (link (pl z) g i)] 203))) := b1 w _
  have P1 : Pt (w.alloc (.cells #[.int .i64 0, .int .i64 0, .string ⟨#[]⟩, .int .i64 0, .int .i64 0, .string ⟨#[]⟩, .int .i64 0] 203)) b a z g := h.below (b1 w _)
  have CS := size_any _ P1
  obtain ⟨k0, k1, k2⟩ := h.k hi
  obtain ⟨x0, x1, x2⟩ := h.x hi
  have l6 := h.l hi
  have c1 := h.all
  have hlt : a < w.heap.size := h.lta
  have hlb : b < w.heap.size := h.ltb
  clear h P1
  unfold pp vn at *
  generalize (g.K i).1 = r0 at *
  generalize (g.K i).2.1 = r1 at *
  generalize (g.K i).2.2 = r2 at *
  generalize (g.X i).1 = s0 at *
  generalize (g.X i).2.1 = s1 at *
  generalize (g.X i).2.2 = s2 at *
  generalize link (pl z) g i = l at *
  have hiz : (i : Int) < (z : Int) := by omega
  have hi0 : ¬ ((i : Int) < 0) := by omega
  go_enter Tryz.func103, Tryz.ntmps103
  go_wp2_with fail
  refine CS.mono ?_; rintro e w' ⟨rfl, rfl⟩
  go_wp2_with fail
  refine bodyPost_ret (v := .agg #[.int .i64 r0, .int .i64 r1, .string r2, .int .i64 s0, .int .i64 s1, .string s2, .int .i64 l]) (by simp [results, Tryz.results103, go_sem]) rfl ⟨rfl, ?_⟩
  exact HW.out
set_option maxRecDepth 20000 in
set_option maxHeartbeats 2000000 in
theorem at_out {p : Value} {z : Int} (i : Int) (w : World) (hS : ∀ W, Below w.heap.size w W → Calls Tryz.prog 111 #[p] W fun e w' => e = .returned (.int .i64 z) ∧ w' = W) (hi : i < 0 ∨ z ≤ i) :
    Calls Tryz.prog 103 #[p, .int .i64 i] w fun e w' => e = .returned (vn nil nil 0) ∧ Below w.heap.size w w' := by
  have HW : Hid (Below w.heap.size w (w.alloc (.cells #[.int .i64 0, .int .i64 0, .string ⟨#[]⟩, .int .i64 0, .int .i64 0, .string ⟨#[]⟩, .int .i64 0] 203))) := b1 w _
  have CS := hS _ (b1 w (.cells #[.int .i64 0, .int .i64 0, .string ⟨#[]⟩, .int .i64 0, .int .i64 0, .string ⟨#[]⟩, .int .i64 0] 203))
  clear hS
  unfold vn
  by_cases h0 : i < 0
  · clear hi
    go_enter Tryz.func103, Tryz.ntmps103
    go_wp2_with fail
    refine bodyPost_ret (v := .agg #[.int .i64 0, .int .i64 0, .string ⟨#[]⟩, .int .i64 0, .int .i64 0, .string ⟨#[]⟩, .int .i64 0]) (by simp [results, Tryz.results103, go_sem]) rfl ⟨rfl, ?_⟩
    exact HW.out
  · have h1 : z ≤ i := by omega
    clear hi
    go_enter Tryz.func103, Tryz.ntmps103
    go_wp2_with fail
    refine CS.mono ?_; rintro e w' ⟨rfl, rfl⟩
    go_wp2_with fail
    refine bodyPost_ret (v := .agg #[.int .i64 0, .int .i64 0, .string ⟨#[]⟩, .int .i64 0, .int .i64 0, .string ⟨#[]⟩, .int .i64 0]) (by simp [results, Tryz.results103, go_sem]) rfl ⟨rfl, ?_⟩
    exact HW.out

/-- What Get answers. -/
def xAt (g : G) : Option Nat → V
  | none => nil
  | some i => g.X i
def fnd (z : Nat) (g : G) (k : V) : Option Nat × Nat := if z = 0 ∨ fm k = false ∨ k.1 = 0 then (none, 0) else find (pl z) g k
theorem find_all {b a z : Nat} {g : G} (k : V) (w : World) (h : Pt w b a z g) (hi : Inv z (pl z) KOK g) (hz : Rt z) (hr : Rng k) :
    Calls Tryz.prog 102 #[pp b, vl k.1 k.2.1 k.2.2] w fun e w' => e = .returned (.tuple #[.int .i64 (fi (fnd z g k).1), .int .i64 ((fnd z g k).2 : Nat)]) ∧ Below w.heap.size w w' := by
  unfold fnd
  by_cases hb : z = 0 ∨ fm k = false ∨ k.1 = 0
  · rw [if_pos hb]
    refine find_bad k w h.sizes hr.1 hr.2 (mnE_bad ?_)
    rcases hb with hb | hb | hb
    · rw [hb]; exact .inl pw0
    · exact .inr (.inl hb)
    · exact .inr (.inr hb)
  · rw [if_neg hb]
    simp only [not_or, Bool.not_eq_false] at hb
    exact find_any k w h hi (hz.resolve_left hb.1) ⟨hb.2.1, hb.2.2, hr.1, hr.2⟩
theorem fnd_lt {z : Nat} {g : G} {k : V} (hi : Inv z (pl z) KOK g) (hz : Rt z) (hr : Rng k) {i n : Nat} (h : fnd z g k = (some i, n)) : i < z ∧ g.K i = k ∧ 0 < n := by
  unfold fnd at h
  by_cases hb : z = 0 ∨ fm k = false ∨ k.1 = 0
  · rw [if_pos hb] at h; cases h
  · rw [if_neg hb] at h
    simp only [not_or, Bool.not_eq_false] at hb
    have hz' := hz.resolve_left hb.1
    obtain ⟨q1, q2, q3⟩ := hi.find_some (fun k _ => pl_lt hz' k) (show KOK k from ⟨hb.2.1, hb.2.2, hr.1, hr.2⟩) h
    exact ⟨q2, q1, q3⟩

set_option maxRecDepth 20000 in
set_option maxHeartbeats 2000000 in
theorem get_any {b a z : Nat} {g : G} (k : V) (w : World) (h : Pt w b a z g) (hi : Inv z (pl z) KOK g) (hz : Rt z) (hr : Rng k) :
    Calls Tryz.prog 66 #[pp b, vl k.1 k.2.1 k.2.2] w fun e w' => e = .returned (.tuple #[vl (xAt g (fnd z g k).1).1 (xAt g (fnd z g k).1).2.1 (xAt g (fnd z g k).1).2.2, .int .i64 ((fnd z g k).2 : Nat)]) ∧ Below w.heap.size w w' := by
  obtain ⟨W0, hW0⟩ : ∃ W0, (w.alloc (vb k.1 k.2.1 k.2.2)).alloc (vb 0 0 ⟨#[]⟩) = W0 := ⟨_, rfl⟩
  have B0 : Below w.heap.size w W0 := by rw [← hW0]; exact b2 _ _ _
  have P0 : Pt W0 b a z g := h.below B0
  have CF := find_all k W0 P0 hi hz hr
  have HL : Hid (∀ i n, fnd z g k = (some i, n) → i < z) := fun i n hf => (fnd_lt hi hz hr hf).1
  have X2 : Bx W0 (w.heap.size + 1) nil := by
    have h0 := Bx.made (w.alloc (vb k.1 k.2.1 k.2.2)) nil
    have e : (w.alloc (vb k.1 k.2.1 k.2.2)).heap.size = w.heap.size + 1 := by simp
    rw [e] at h0
    rw [← hW0]; exact h0
  have F2 : ∀ j, W0.frozen? ⟨w.heap.size + 1, j, none⟩ = false := fun j => by
    have h0 := new_free (w.alloc (vb k.1 k.2.1 k.2.2)) #[.int .i64 0, .int .i64 0, .string ⟨#[]⟩] 37 j
    have e : (w.alloc (vb k.1 k.2.1 k.2.2)).heap.size = w.heap.size + 1 := by simp
    rw [e] at h0
    rw [← hW0]; exact h0
  have HP0 : Hid _ := P0
  have HB0 : Hid _ := B0
  have HX2 : Hid _ := X2
  have HF2 : Hid _ := F2
  clear h hi hz hr B0 P0 X2 F2
  unfold pp vl vb at *
  generalize hsz : w.heap.size = B at *
  have hsz2 : (w.alloc (.cells #[.int .i64 k.1, .int .i64 k.2.1, .string k.2.2] 37)).heap.size = B + 1 := by rw [← hsz]; simp
  have d0 : ((w.alloc (.cells #[.int .i64 k.1, .int .i64 k.2.1, .string k.2.2] 37)).alloc (.cells #[.int .i64 0, .int .i64 0, .string ⟨#[]⟩] 37)).cell? ⟨B, 0, none⟩ = some (.int .i64 k.1) := by rw [← hsz]; simp [go_sem]
  have d1 : ((w.alloc (.cells #[.int .i64 k.1, .int .i64 k.2.1, .string k.2.2] 37)).alloc (.cells #[.int .i64 0, .int .i64 0, .string ⟨#[]⟩] 37)).cell? ⟨B, 1, none⟩ = some (.int .i64 k.2.1) := by rw [← hsz]; simp [go_sem]
  have d2 : ((w.alloc (.cells #[.int .i64 k.1, .int .i64 k.2.1, .string k.2.2] 37)).alloc (.cells #[.int .i64 0, .int .i64 0, .string ⟨#[]⟩] 37)).cell? ⟨B, 2, none⟩ = some (.string k.2.2) := by rw [← hsz]; simp [go_sem]
  rw [hW0] at d0 d1 d2
  have HSZ : Hid (w.heap.size = B) := hsz
  cases hf : fnd z g k with
  | mk o n =>
    rw [hf] at CF
    go_enter Tryz.func66, Tryz.ntmps66
    go_wp2_with fail
    refine CF.mono ?_; rintro e W1 ⟨rfl, hb⟩
    have hb1 : Below B w W1 := bthen HB0.out (HSZ.out ▸ HB0.out.size) hb
    have P1 := HP0.out.below hb
    have Y2 := HX2.out.below hb
    have FF : ∀ j, W1.frozen? ⟨B + 1, j, none⟩ = false := fun j => by rw [hb.frozen (by exact HX2.out.lt)]; exact HF2.out j
    cases o with
    | some i =>
      have hiz := HL.out i n hf
      have CA := at_in i W1 P1 hiz
      unfold pp vn at CA
      have HB1 : Hid _ := hb1
      have HY2 : Hid _ := Y2
      have HFF : Hid _ := FF
      simp only [fi]
      clear hb1 hb CF Y2 FF P1
      go_wp2_with fail
      refine CA.mono ?_; rintro e W2 ⟨rfl, hb⟩
      have hb2 : Below B w W2 := bthen HB1.out (HSZ.out ▸ HB1.out.size) hb
      have Y3 := HY2.out.below hb
      have c0 := Y3.c0
      have c1 := Y3.c1
      have c2 := Y3.c2
      have ff : ∀ j, W2.frozen? ⟨B + 1, j, none⟩ = false := fun j => by rw [hb.frozen (by exact HY2.out.lt)]; exact HFF.out j
      have HB2 : Hid _ := hb2
      have f1 := field1 (g.K i) (g.X i) (link (pl z) g i)
      unfold vn vl at f1
      have S3 : Hid _ := Keep.bel (No := fun x => x < B) (((Keep.of (No := fun x => x < B) (HSZ.out ▸ hb2)).set (p := ⟨B + 1, 0, none⟩) (by simp) (.int .i64 (g.X i).1)).set (p := ⟨B + 1, 1, none⟩) (by simp) (.int .i64 (g.X i).2.1) |>.set (p := ⟨B + 1, 2, none⟩) (by simp) (.string (g.X i).2.2)) (Below.refl _ _)
      clear hb hb2 Y3
      go_wp2_with fail
      refine bodyPost_ret (v := .tuple #[.agg #[.int .i64 (g.X i).1, .int .i64 (g.X i).2.1, .string (g.X i).2.2], .int .i64 (n : Nat)]) (by simp [results, Tryz.results66, go_sem, c0, c1, c2]) rfl ⟨rfl, ?_⟩
      exact S3.out.below (HSZ.out ▸ Nat.le_refl _) (fun g hg => hg)
    | none =>
      have CA := at_out (-1) W1 P1.sizes (.inl (by omega))
      unfold pp vn at CA
      have HB1 : Hid _ := hb1
      have HY2 : Hid _ := Y2
      have HFF : Hid _ := FF
      simp only [fi]
      clear hb1 hb CF Y2 FF P1
      go_wp2_with fail
      refine CA.mono ?_; rintro e W2 ⟨rfl, hb⟩
      have hb2 : Below B w W2 := bthen HB1.out (HSZ.out ▸ HB1.out.size) hb
      have Y3 := HY2.out.below hb
      have c0 := Y3.c0
      have c1 := Y3.c1
      have c2 := Y3.c2
      have ff : ∀ j, W2.frozen? ⟨B + 1, j, none⟩ = false := fun j => by rw [hb.frozen (by exact HY2.out.lt)]; exact HFF.out j
      have HB2 : Hid _ := hb2
      have f1 := field1 nil nil 0
      unfold vn vl at f1
      have S3 : Hid _ := Keep.bel (No := fun x => x < B) (((Keep.of (No := fun x => x < B) (HSZ.out ▸ hb2)).set (p := ⟨B + 1, 0, none⟩) (by simp) (.int .i64 nil.1)).set (p := ⟨B + 1, 1, none⟩) (by simp) (.int .i64 nil.2.1) |>.set (p := ⟨B + 1, 2, none⟩) (by simp) (.string nil.2.2)) (Below.refl _ _)
      clear hb hb2 Y3
      go_wp2_with fail
      refine bodyPost_ret (v := .tuple #[.agg #[.int .i64 nil.1, .int .i64 nil.2.1, .string nil.2.2], .int .i64 (n : Nat)]) (by simp [results, Tryz.results66, go_sem, c0, c1, c2]) rfl ⟨rfl, ?_⟩
      exact S3.out.below (HSZ.out ▸ Nat.le_refl _) (fun g hg => hg)
end Go.Proofs.YtpmmploedkbeoaaGreatDoor

/- The walk of Dump; Put at all arguments; what stays true. -/
namespace Go.Proofs.YtpmmploedkbeoaaGreatDoor
open Go.RowKit

/-- Put at all arguments. -/
theorem put_all {b a z : Nat} {g : G} (k v : V) (w : World) (h : Pt w b a z g) (hi : Inv z (pl z) KOK g) (hz : Rt z) (hr : Rng k) :
    Calls Tryz.prog 104 #[pp b, vl k.1 k.2.1 k.2.2, vl v.1 v.2.1 v.2.2] w fun e w' => e = .returned (.tuple #[.int .i64 ((put z g k v).2.1 : Nat), .int .i64 (put z g k v).2.2]) ∧ Pt w' b a z (put z g k v).1 ∧ Keep (fun x => x ≠ a ∧ x ≠ b) w w' := by
  by_cases hf : fm k = true ∧ fm v = true
  · by_cases hk : k.1 = 0
    · have e : put z g k v = (g, 0, 9) := by rw [put, if_pos hf, if_pos hk]
      rw [e]
      exact (put_key k v w hf hk).mono fun e w' ⟨h1, h2⟩ => ⟨h1, h.below h2, Keep.of h2⟩
    · by_cases hz0 : z = 0
      · have e : put z g k v = (g, 0, if v.1 = 0 then 0 else 12) := by rw [put, if_pos hf, if_neg hk, if_pos hz0]
        rw [e]
        exact (put_zero k v w h.sizes hf hk hr (by rw [hz0]; exact pw0)).mono fun e w' ⟨h1, h2⟩ => ⟨h1, h.below h2, Keep.of h2⟩
      · exact put_good k v w h hi (hz.resolve_left hz0) ⟨hf.1, hk, hr.1, hr.2⟩ hf.2
  · have e : put z g k v = (g, 0, 2) := by rw [put, if_neg hf]
    rw [e]
    exact (put_form k v w hf).mono fun e w' ⟨h1, h2⟩ => ⟨h1, h.below h2, Keep.of h2⟩

theorem put_inv {z : Nat} {g : G} (k v : V) (hi : Inv z (pl z) KOK g) (hz : Rt z) (hr : Rng k) : Inv z (pl z) KOK (put z g k v).1 ∧ (put z g k v).1.f ≤ g.f := by
  by_cases hf : fm k = true ∧ fm v = true
  · by_cases hk : k.1 = 0
    · rw [put, if_pos hf, if_pos hk]; exact ⟨hi, Nat.le_refl _⟩
    · by_cases hz0 : z = 0
      · rw [put, if_pos hf, if_neg hk, if_pos hz0]; exact ⟨hi, Nat.le_refl _⟩
      · rw [put, if_pos hf, if_neg hk, if_neg hz0]
        have hz' := hz.resolve_left hz0
        have hK : KOK k := ⟨hf.1, hk, hr.1, hr.2⟩
        cases e : find (pl z) g k with
        | mk o n =>
          cases o with
          | some i =>
            obtain ⟨q1, q2, q3⟩ := hi.find_some (fun k _ => pl_lt hz' k) hK e
            exact ⟨hi.setX v (by rw [q1]; exact hK.ne), Nat.le_refl _⟩
          | none =>
            simp only
            split
            · exact ⟨hi, Nat.le_refl _⟩
            · exact hi.ins (fun k _ => pl_lt hz' k) v hK hK.ne (hi.find_none (fun k _ => pl_lt hz' k) hK.ne e)
  · rw [put, if_neg hf]; exact ⟨hi, Nat.le_refl _⟩

/-- Its cells in a row. -/
def rowOf (F : Nat → Nat → Value) (z : Nat) : List Value := (List.range (z * 7)).map (fun j => F (j / 7) (j % 7))
theorem rowOf_at (F : Nat → Nat → Value) (z j : Nat) (h : j < z * 7) : (rowOf F z)[j]? = some (F (j / 7) (j % 7)) := by
  unfold rowOf
  rw [List.getElem?_map, List.getElem?_range h]
  rfl
theorem rowOf_len (F : Nat → Nat → Value) (z : Nat) : (rowOf F z).length = z * 7 := by simp [rowOf]
theorem nc_one (k x : V) (l : Int) (j : Nat) : (nc k x l j).oneCell' = true := by
  unfold nc
  split <;> rfl

theorem clone_app (a z cap : Nat) (F : Nat → Nat → Value) (w : World) (hv : Rc w a z F) (hlt : a < w.heap.size) (h1 : ∀ i j, (F i j).oneCell' = true) (hz : z ≤ 65536) :
    ∃ g' c' w', (Builtin.append_ #[243, 243] 243 #[.slice (some ⟨w.heap.size, 0, none⟩) 0 0, .slice (some ⟨a, 0, none⟩) z cap]).run Tryz.prog (w.alloc (.cells #[] 203)) = .ok (.slice (some ⟨g', 0, none⟩) z c') w' ∧
      Rc w' g' z F ∧ (∀ j, w'.frozen? ⟨g', j, none⟩ = false) ∧ w.heap.size ≤ g' ∧ g' < w'.heap.size ∧ Below w.heap.size w w' := by
  obtain ⟨i0, hi, hz0, hz1, hz2⟩ := info_parts info54
  have hb0 : Below w.heap.size w (w.alloc (.cells #[] 203)) := b1 w _
  have hv2 : Rc (w.alloc (.cells #[] 203)) a z F := hv.block (hb0.block a hlt)
  obtain ⟨v', w', hr, hown, hg, hne⟩ := run_append_own (P := Tryz.prog) (w.alloc (.cells #[] 203)) w.heap.size 243 243 203 i0 (vn nil nil 0) 7 72 Tryz.underlying243 hi hz0 hz1 hz2 rfl (by omega)
    (.slice (some ⟨w.heap.size, 0, none⟩) 0 0) 0 [] (World.ownsRow_made w #[] 0 (Nat.le_refl _) (Nat.zero_le _) rfl)
    ⟨a, 0, none⟩ z cap (rowOf F z) (rowOf_len F z) (fun j u hu => by
      have hj : j < z * 7 := by
        obtain ⟨h, _⟩ := List.getElem?_eq_some_iff.1 hu
        rw [rowOf_len] at h
        exact h
      rw [rowOf_at F z j hj] at hu
      have h2 := hv2.c (j / 7) (by omega) (j % 7) (by omega)
      have e : (Addr.add ⟨a, 0, none⟩ j) = ⟨a, j / 7 * 7 + j % 7, none⟩ := by
        have e2 : j / 7 * 7 + j % 7 = j := by omega
        rw [e2]
        by_cases hj0 : j = 0
        · subst hj0; rfl
        · simp [Addr.add, hj0]
      rw [e, h2]
      exact hu) (fun u hu => by
        unfold rowOf at hu
        rw [List.mem_map] at hu
        obtain ⟨j, _, rfl⟩ := hu
        exact h1 _ _) (by simp only [maxLen]; omega) (by omega) (by simp)
  have hbel : Below w.heap.size w w' := hb0.grown hg (by simp) (fun k hk => by
    simp only [Value.ownBlock, Option.some.injEq] at hk
    omega)
  simp only [Nat.zero_add, List.nil_append] at hown
  have hown2 := hown
  rcases hown.2 with ⟨h', _⟩ | ⟨g, c, cur, rfl, hbg, hgo, _, _, _, _⟩
  · have := hne.1 h'
    simp at this
  · have hlt : g < w'.heap.size := by
      rw [Array.getElem?_eq_some_iff] at hgo
      exact hgo.1
    refine ⟨g, c, w', hr, ⟨fun i hi j hj => ?_⟩, fun j => ?_, hbg, hlt, hbel⟩
    · rw [hown2.cellAt _ (by omega), rowOf_at F z _ (by omega)]
      have e1 : (i * 7 + j) / 7 = i := by omega
      have e2 : (i * 7 + j) % 7 = j := by omega
      rw [e1, e2]
    · unfold World.frozen?
      rw [hgo]
      simp

/-- Append by a run's equation. -/
theorem wp_app {P : Program} {W W' : World} {v' : Value} {ops : Array Oper} {rest : List Oper} {o : Oper} {a : Act} {Q : Exit → Act → World → Prop} (hgd : o.guard = none) (s x : Operand) (t : TypeId)
    (ho : o.op = .call { callee := .builtin .append, args := #[s, x], argTypes := #[t, t] }) (ty : TypeId) (hty : o.type = ty) (vs vx : Value) (hs : a.eval s = vs) (hx : a.eval x = vx)
    (hr : (Builtin.append_ #[t, t] ty #[vs, vx]).run P W = .ok v' W') (h : wpList P ops Q rest (a.put o.dst v') W') : wpList P ops Q (o :: rest) a W :=
  wpList_plain hgd fun _ hK => by
    unfold Oper.wp execOp
    simp only [ho, hty, resolve, invoke, builtin, Sem.run_bind, Sem.run_pure, Result.andThen_ok, List.map_toArray, List.map_cons, List.map_nil, hs, hx, hr]
    exact hK _ _ h
theorem notnil (a z cap : Nat) (W : World) : (binOp .eql 243 (.slice (some ⟨a, 0, none⟩) z cap) (.slice none 0 0)).run Tryz.prog W = .ok (.bool false) W := by kernel_rfl
end Go.Proofs.YtpmmploedkbeoaaGreatDoor

/- The pure part, on: a part is a map of keys to values. -/
namespace Go.Proofs.YtpmmploedkbeoaaGreatDoor
open Go.RowKit

/-- What Get answers. -/
def mg (z : Nat) (g : G) (k : V) : V := xAt g (fnd z g k).1
theorem fnd_good {z : Nat} {g : G} {k : V} (hz : z ≠ 0) (hk : KOK k) : fnd z g k = find (pl z) g k := by
  rw [fnd, if_neg]
  rintro (e | e | e)
  · exact hz e
  · have := hk.1; unfold fm at e; rw [this] at e; cases e
  · exact hk.2.1 e
theorem mg_held {z : Nat} {g : G} {k : V} (hi : Inv z (pl z) KOK g) (hz : pw z = true) (hk : KOK k) {i : Nat} (hiz : i < z) (he : g.K i = k) : mg z g k = g.X i := by
  have hz0 : z ≠ 0 := by omega
  obtain ⟨p, q, _, _, hf⟩ := hi.find_held (fun k _ => pl_lt hz k) hiz (by rw [he]; exact hk.ne)
  rw [he] at hf
  rw [mg, fnd_good hz0 hk, hf]
  rfl
theorem mg_not {z : Nat} {g : G} {k : V} (hi : Inv z (pl z) KOK g) (hz : pw z = true) (hk : KOK k) (hn : ∀ i, i < z → g.K i ≠ k) : mg z g k = nil := by
  have hz0 : z ≠ 0 := by have := (pw_bounds z hz).1; omega
  rw [mg, fnd_good hz0 hk]
  cases hf : find (pl z) g k with
  | mk o n =>
    cases o with
    | none => rfl
    | some i =>
      have := hi.find_some (fun k _ => pl_lt hz k) hk hf
      exact absurd this.1 (hn i this.2.1)
theorem form_nil {v : V} (h : fm v = true) (h0 : v.1 = 0) : v = nil := by
  obtain ⟨k, n, s⟩ := v
  simp only at h0
  subst h0
  simp only [fm, inF, if_true, Bool.and_eq_true, decide_eq_true_eq, List.isEmpty_iff] at h
  obtain ⟨rfl, hs⟩ := h
  rw [ByteArray.toList_eq] at hs
  obtain ⟨⟨l⟩⟩ := s
  simp at hs
  subst hs
  rfl
/-- A Put without an error: the key has the value, all others what they had. -/
theorem put_map {z : Nat} {g : G} {k v : V} (hi : Inv z (pl z) KOK g) (hz : Rt z) (hr : Rng k) (he : (put z g k v).2.2 = 0) :
    KOK k ∧ mg z (put z g k v).1 k = v ∧ ∀ k', KOK k' → k' ≠ k → mg z (put z g k v).1 k' = mg z g k' := by
  by_cases hf : fm k = true ∧ fm v = true
  · by_cases hk0 : k.1 = 0
    · rw [put, if_pos hf, if_pos hk0] at he; cases he
    · have hk : KOK k := ⟨hf.1, hk0, hr.1, hr.2⟩
      refine ⟨hk, ?_⟩
      by_cases hz0 : z = 0
      · have e : put z g k v = (g, 0, if v.1 = 0 then 0 else 12) := by rw [put, if_pos hf, if_neg hk0, if_pos hz0]
        rw [e] at he ⊢
        have hv0 : v.1 = 0 := by
          by_cases q : v.1 = 0
          · exact q
          · simp only [if_neg q] at he; cases he
        refine ⟨?_, fun k' _ _ => rfl⟩
        rw [form_nil hf.2 hv0]
        show mg z g k = nil
        rw [mg, fnd, if_pos (Or.inl hz0)]
        rfl
      · have hz' := hz.resolve_left hz0
        have hinv := (put_inv k v hi hz hr).1
        have hold : ∀ k', KOK k' → (∃ i, i < z ∧ g.K i = k') ∨ ∀ i, i < z → g.K i ≠ k' := fun k' _ => by
          by_cases q : ∃ i, i < z ∧ g.K i = k'
          · exact .inl q
          · exact .inr fun i hi e => q ⟨i, hi, e⟩
        rw [put, if_pos hf, if_neg hk0, if_neg hz0] at he hinv ⊢
        cases hfi : find (pl z) g k with
        | mk o n =>
          rw [hfi] at he hinv
          cases o with
          | some i =>
            simp only at he hinv ⊢
            obtain ⟨h1, h2, h3⟩ := hi.find_some (fun k _ => pl_lt hz' k) hk hfi
            refine ⟨?_, fun k' hk' hne => ?_⟩
            · rw [mg_held hinv hz' hk h2 h1]; exact upd_at _ _ _
            · rcases hold k' hk' with ⟨j, hj, ej⟩ | hn
              · rw [mg_held hinv hz' hk' hj ej, mg_held hi hz' hk' hj ej]
                exact upd_ne _ _ (fun e => hne (by rw [← ej, e, h1]))
              · rw [mg_not hinv hz' hk' hn, mg_not hi hz' hk' hn]
          | none =>
            have hnew := hi.find_none (fun k _ => pl_lt hz' k) hk.ne hfi
            simp only at he hinv ⊢
            by_cases hv0 : v.1 = 0
            · rw [if_pos hv0]
              refine ⟨?_, fun k' _ _ => rfl⟩
              rw [mg_not hi hz' hk hnew, form_nil hf.2 hv0]
            · rw [if_neg hv0] at he hinv ⊢
              simp only at he hinv ⊢
              have hb : (ins (pl z) g k v).2 = true := by
                cases q : (ins (pl z) g k v).2 with
                | true => rfl
                | false => rw [q] at he; exact absurd he (by decide)
              have hm := hi.ins_map (fun k _ => pl_lt hz' k) v hk hb
              refine ⟨?_, fun k' hk' hne => ?_⟩
              · obtain ⟨i, hi1, hi2, hi3⟩ := (hm k v hk.ne).2 (.inl ⟨rfl, rfl⟩)
                rw [mg_held hinv hz' hk hi1 hi2]; exact hi3
              · rcases hold k' hk' with ⟨j, hj, ej⟩ | hn
                · obtain ⟨i, hi1, hi2, hi3⟩ := (hm k' (g.X j) hk'.ne).2 (.inr ⟨j, hj, ej, rfl⟩)
                  rw [mg_held hinv hz' hk' hi1 hi2, hi3, mg_held hi hz' hk' hj ej]
                · rw [mg_not hi hz' hk' hn, mg_not hinv hz' hk' (fun i hi1 e => ?_)]
                  rcases (hm k' _ hk'.ne).1 ⟨i, hi1, e, rfl⟩ with ⟨q, _⟩ | ⟨j, hj, ej, _⟩
                  · exact hne q
                  · exact hn j hj ej
  · rw [put, if_neg hf] at he; cases he
/-- A Put with an error: all keys have what they had; which error. -/
theorem put_bad {z : Nat} {g : G} {k v : V} (he : (put z g k v).2.2 ≠ 0) : (∀ k', mg z (put z g k v).1 k' = mg z g k') ∧ ((put z g k v).2.2 = 12 ∨ ((put z g k v).2.2 = 2 ∧ ¬ (fm k = true ∧ fm v = true)) ∨ ((put z g k v).2.2 = 9 ∧ fm k = true ∧ fm v = true ∧ k.1 = 0)) := by
  by_cases hf : fm k = true ∧ fm v = true
  · by_cases hk0 : k.1 = 0
    · rw [put, if_pos hf, if_pos hk0]; exact ⟨fun _ => rfl, .inr (.inr ⟨rfl, hf.1, hf.2, hk0⟩)⟩
    · by_cases hz0 : z = 0
      · rw [put, if_pos hf, if_neg hk0, if_pos hz0] at he ⊢
        by_cases q : v.1 = 0
        · simp only [if_pos q] at he; exact absurd rfl he
        · exact ⟨fun _ => rfl, .inl (if_neg q)⟩
      · rw [put, if_pos hf, if_neg hk0, if_neg hz0] at he ⊢
        cases hfi : find (pl z) g k with
        | mk o n =>
          rw [hfi] at he
          cases o with
          | some i => exact absurd rfl he
          | none =>
            simp only at he ⊢
            by_cases hv0 : v.1 = 0
            · rw [if_pos hv0] at he; exact absurd rfl he
            · rw [if_neg hv0] at he ⊢
              unfold ins at he ⊢
              by_cases e1 : g.K (pl z k) = nil
              · rw [if_pos e1] at he; exact absurd rfl he
              · rw [if_neg e1] at he ⊢
                cases ht : tf g.K g.f with
                | none => exact ⟨fun _ => rfl, .inl rfl⟩
                | some a =>
                  rw [ht] at he
                  simp only at he
                  split at he <;> exact absurd rfl he
  · rw [put, if_neg hf]; exact ⟨fun _ => rfl, .inr (.inl ⟨rfl, hf⟩)⟩
end Go.Proofs.YtpmmploedkbeoaaGreatDoor

/- The pure part, on: how many nodes hold keys, and what is read to find them all. -/
namespace Go.Proofs.YtpmmploedkbeoaaGreatDoor
variable {z : Nat} {pl : V → Nat} {ok : V → Prop} {g : G}

def sumTo : Nat → (Nat → Nat) → Nat
  | 0, _ => 0
  | n + 1, f => sumTo n f + f n
theorem sumTo_congr {n : Nat} {f f' : Nat → Nat} (h : ∀ j, j < n → f j = f' j) : sumTo n f = sumTo n f' := by
  induction n with
  | zero => rfl
  | succ n ih => rw [sumTo, sumTo, ih (fun j hj => h j (by omega)), h n (by omega)]
theorem sumTo_add (n : Nat) (f f' : Nat → Nat) : sumTo n (fun j => f j + f' j) = sumTo n f + sumTo n f' := by
  induction n with
  | zero => rfl
  | succ n ih => rw [sumTo, sumTo, sumTo, ih]; omega
theorem sumTo_zero (n : Nat) : sumTo n (fun _ => 0) = 0 := by
  induction n with
  | zero => rfl
  | succ n ih => rw [sumTo, ih]
theorem sumTo_one {n x : Nat} (v : Nat) (h : x < n) : sumTo n (fun j => if j = x then v else 0) = v := by
  induction n with
  | zero => omega
  | succ n ih =>
    rw [sumTo]
    by_cases e : x = n
    · subst e
      rw [if_pos rfl, sumTo_congr (f' := fun _ => 0) (fun j hj => by rw [if_neg (by omega)]), sumTo_zero]; omega
    · rw [ih (by omega), if_neg (fun q => e q.symm)]; rfl
theorem sumTo_le {n : Nat} {f f' : Nat → Nat} (h : ∀ j, j < n → f j ≤ f' j) : sumTo n f ≤ sumTo n f' := by
  induction n with
  | zero => exact Nat.le_refl _
  | succ n ih =>
    have h1 := ih (fun j hj => h j (by omega))
    have h2 := h n (by omega)
    rw [sumTo, sumTo]; omega

/-- Where a number stands in a list, from one on; nought: nowhere. -/
def pos (c : List Nat) (j : Nat) : Nat := if j ∈ c then (c.takeWhile (· != j)).length + 1 else 0
theorem pos_split {p q : List Nat} {i : Nat} (h : i ∉ p) : pos (p ++ i :: q) i = p.length + 1 := by
  unfold pos
  rw [if_pos (by simp)]
  congr 1
  induction p with
  | nil => simp
  | cons a p ih =>
    simp only [List.mem_cons, not_or] at h
    have : (a != i) = true := by simpa using fun e => h.1 e.symm
    rw [List.cons_append, List.takeWhile_cons, if_pos this, List.length_cons, ih h.2]; rfl
theorem pos_not {c : List Nat} {i : Nat} (h : i ∉ c) : pos c i = 0 := by unfold pos; rw [if_neg h]
def tri : Nat → Nat
  | 0 => 0
  | n + 1 => tri n + (n + 1)
theorem tri_two (n : Nat) : 2 * tri n = n * (n + 1) := by
  induction n with
  | zero => rfl
  | succ n ih => rw [tri, Nat.mul_add, ih, ← Nat.add_mul, Nat.mul_comm]
theorem tri_half (n : Nat) : n * (n + 1) / 2 = tri n := by rw [← tri_two]; omega
theorem tri_add (a b : Nat) : tri a + tri b ≤ tri (a + b) := by
  induction b with
  | zero => exact Nat.le_refl _
  | succ b ih =>
    have e1 : tri (b + 1) = tri b + (b + 1) := rfl
    have e2 : tri (a + (b + 1)) = tri (a + b) + (a + b + 1) := rfl
    rw [e1, e2]; omega
theorem sum_pos {n : Nat} {c : List Nat} (hn : c.Nodup) (hl : ∀ x, x ∈ c → x < n) : sumTo n (pos c) = tri c.length ∧ sumTo n (fun j => if j ∈ c then 1 else 0) = c.length := by
  obtain ⟨k, hk⟩ : ∃ k, c.length = k := ⟨_, rfl⟩
  induction k generalizing c with
  | zero =>
    obtain rfl : c = [] := List.eq_nil_of_length_eq_zero hk
    constructor
    · rw [sumTo_congr (f' := fun _ => 0) (fun j _ => pos_not (by simp)), sumTo_zero]; rfl
    · rw [sumTo_congr (f' := fun _ => 0) (fun j _ => if_neg (by simp)), sumTo_zero]; rfl
  | succ k ih =>
    rcases List.eq_nil_or_concat c with e | ⟨c', x, e⟩
    · rw [e] at hk; cases hk
    · rw [List.concat_eq_append] at e
      subst e
      rw [List.nodup_append] at hn
      have hx : x ∉ c' := fun h => hn.2.2 x h x (by simp) rfl
      have hk' : c'.length = k := by simp at hk; omega
      obtain ⟨i1, i2⟩ := ih (c := c') hn.1 (fun y hy => hl y (by simp [hy])) hk'
      have hxn : x < n := hl x (by simp)
      constructor
      · rw [sumTo_congr (f' := fun j => pos c' j + (if j = x then k + 1 else 0)) (fun j _ => ?_), sumTo_add, i1, sumTo_one _ hxn]
        · simp [hk']; rfl
        · by_cases e : j = x
          · subst e
            rw [if_pos rfl, pos_not hx, pos_split hx, hk']; omega
          · rw [if_neg e]
            by_cases h : j ∈ c'
            · obtain ⟨p, q, rfl, hp⟩ := mem_split h
              rw [List.append_assoc, List.cons_append, pos_split hp, pos_split hp]
            · rw [pos_not h, pos_not (by simp [h, e])]
      · rw [sumTo_congr (f' := fun j => (if j ∈ c' then 1 else 0) + (if j = x then 1 else 0)) (fun j _ => ?_), sumTo_add, i2, sumTo_one _ hxn]
        · simp
        · by_cases e : j = x
          · subst e; simp [hx]
          · simp [e]

/-- How many nodes hold keys; what is read for each. -/
def held (g : G) (n : Nat) : Nat := sumTo n (fun j => if g.K j = nil then 0 else 1)
def rds (pl : V → Nat) (g : G) (j : Nat) : Nat := if g.K j = nil then 0 else (find pl g (g.K j)).2
theorem Inv.rds_pos (h : Inv z pl ok g) (hpl : ∀ k, ok k → pl k < z) {j : Nat} (hj : j < z) (hne : g.K j ≠ nil) : rds pl g j = pos (g.C (pl (g.K j))) j := by
  obtain ⟨p, q, hc, hp, hf⟩ := h.find_held hpl hj hne
  rw [rds, if_neg hne, hf, hc, pos_split hp]
theorem Inv.sum_rds (h : Inv z pl ok g) (hpl : ∀ k, ok k → pl k < z) : sumTo z (rds pl g) ≤ tri (held g z) ∧ held g z ≤ sumTo z (rds pl g) := by
  have key : ∀ M, M ≤ z → sumTo z (fun j => if g.K j ≠ nil ∧ pl (g.K j) < M then rds pl g j else 0) ≤ tri (sumTo z (fun j => if g.K j ≠ nil ∧ pl (g.K j) < M then 1 else 0)) := by
    intro M
    induction M with
    | zero =>
      intro _
      rw [sumTo_congr (f' := fun _ => 0) (fun j _ => if_neg (by omega)), sumTo_zero]
      exact Nat.zero_le _
    | succ M ih =>
      intro hM
      obtain ⟨s1, s2⟩ := sum_pos (h.nd M (by omega)) (fun x hx => (h.cok M (by omega) x hx).1)
      have inM : ∀ j, j < z → (j ∈ g.C M ↔ g.K j ≠ nil ∧ pl (g.K j) = M) := fun j hj => ⟨fun hm => (h.cok M (by omega) j hm).2, fun hm => hm.2 ▸ h.inC j hj hm.1⟩
      have e1 : sumTo z (fun j => if g.K j ≠ nil ∧ pl (g.K j) < M + 1 then rds pl g j else 0) = sumTo z (fun j => if g.K j ≠ nil ∧ pl (g.K j) < M then rds pl g j else 0) + sumTo z (pos (g.C M)) := by
        rw [← sumTo_add]
        refine sumTo_congr fun j hj => ?_
        by_cases hk : g.K j ≠ nil
        · by_cases hp : pl (g.K j) = M
          · rw [if_pos ⟨hk, by omega⟩, if_neg (by omega), h.rds_pos hpl hj hk, hp]; omega
          · have : j ∉ g.C M := fun hx => hp ((inM j hj).1 hx).2
            rw [pos_not this]
            by_cases hl : pl (g.K j) < M
            · rw [if_pos ⟨hk, by omega⟩, if_pos ⟨hk, hl⟩]; rfl
            · rw [if_neg (by omega), if_neg (by omega)]
        · have : j ∉ g.C M := fun hx => hk ((inM j hj).1 hx).1
          rw [pos_not this, if_neg (fun q => hk q.1), if_neg (fun q => hk q.1)]
      have e2 : sumTo z (fun j => if g.K j ≠ nil ∧ pl (g.K j) < M + 1 then 1 else 0) = sumTo z (fun j => if g.K j ≠ nil ∧ pl (g.K j) < M then 1 else 0) + sumTo z (fun j => if j ∈ g.C M then 1 else 0) := by
        rw [← sumTo_add]
        refine sumTo_congr fun j hj => ?_
        by_cases hk : g.K j ≠ nil
        · by_cases hp : pl (g.K j) = M
          · rw [if_pos ⟨hk, by omega⟩, if_neg (by omega), if_pos ((inM j hj).2 ⟨hk, hp⟩)]
          · have : j ∉ g.C M := fun hx => hp ((inM j hj).1 hx).2
            rw [if_neg this]
            by_cases hl : pl (g.K j) < M
            · rw [if_pos ⟨hk, by omega⟩, if_pos ⟨hk, hl⟩]
            · rw [if_neg (by omega), if_neg (by omega)]
        · have : j ∉ g.C M := fun hx => hk ((inM j hj).1 hx).1
          rw [if_neg this, if_neg (fun q => hk q.1), if_neg (fun q => hk q.1)]
      rw [e1, e2, s1, s2]
      exact Nat.le_trans (Nat.add_le_add_right (ih (by omega)) _) (tri_add _ _)
  have hall := key z (Nat.le_refl _)
  have hp : ∀ j, j < z → g.K j ≠ nil → pl (g.K j) < z := fun j hj hk => hpl _ ((h.key j hj).resolve_left hk)
  have e3 : sumTo z (fun j => if g.K j ≠ nil ∧ pl (g.K j) < z then rds pl g j else 0) = sumTo z (rds pl g) := sumTo_congr fun j hj => by
    by_cases hk : g.K j = nil
    · rw [if_neg (fun q => q.1 hk), rds, if_pos hk]
    · rw [if_pos ⟨hk, hp j hj hk⟩]
  have e4 : sumTo z (fun j => if g.K j ≠ nil ∧ pl (g.K j) < z then 1 else 0) = held g z := sumTo_congr fun j hj => by
    by_cases hk : g.K j = nil
    · rw [if_neg (fun q => q.1 hk), if_pos hk]
    · rw [if_pos ⟨hk, hp j hj hk⟩, if_neg hk]
  rw [e3, e4] at hall
  refine ⟨hall, sumTo_le fun j hj => ?_⟩
  by_cases hk : g.K j = nil
  · rw [if_pos hk]; exact Nat.zero_le _
  · obtain ⟨p, q, hc, hpp, hf⟩ := h.find_held hpl hj hk
    rw [if_neg hk, rds, if_neg hk, hf]; omega
theorem held_le (g : G) (n : Nat) : held g n ≤ n := by
  have h1 : held g n ≤ sumTo n (fun _ => 1) := sumTo_le fun j _ => by split <;> omega
  have h2 : ∀ m, sumTo m (fun _ => 1) = m := fun m => by
    induction m with
    | zero => rfl
    | succ m ih => rw [sumTo, ih]
  rw [h2] at h1
  exact h1
end Go.Proofs.YtpmmploedkbeoaaGreatDoor

/- The pure part, on: how a part fills up. -/
namespace Go.Proofs.YtpmmploedkbeoaaGreatDoor
open Go.RowKit

theorem held_new {K K' : Nat → V} {n a : Nat} (ha : a < n) (h0 : K a = nil) (h1 : K' a ≠ nil) (h2 : ∀ i, i ≠ a → (K' i = nil ↔ K i = nil)) :
    sumTo n (fun j => if K' j = nil then 0 else 1) = sumTo n (fun j => if K j = nil then 0 else 1) + 1 := by
  have e : sumTo n (fun j => if K' j = nil then 0 else 1) = sumTo n (fun j => (if K j = nil then 0 else 1) + (if j = a then 1 else 0)) := sumTo_congr fun j _ => by
    by_cases e : j = a
    · subst e; rw [if_neg h1, if_pos h0, if_pos rfl]
    · rw [if_neg e]
      by_cases e2 : K j = nil
      · rw [if_pos ((h2 j e).2 e2), if_pos e2]
      · rw [if_neg (fun q => e2 ((h2 j e).1 q)), if_neg e2]
  rw [e, sumTo_add, sumTo_one _ ha]
theorem full_all {K : Nat → V} {n : Nat} (h : sumTo n (fun j => if K j = nil then 0 else 1) = n) : ∀ i, i < n → K i ≠ nil := by
  induction n with
  | zero => intro i hi; omega
  | succ n ih =>
    rw [sumTo] at h
    have h1 : sumTo n (fun j => if K j = nil then 0 else 1) ≤ n := held_le { K := K, X := K, C := fun _ => [], f := 0 } n
    intro i hi
    by_cases e : i = n
    · subst e
      intro q
      rw [if_pos q] at h
      omega
    · refine ih ?_ i (by omega)
      split at h <;> omega
theorem room_ex {K : Nat → V} {n : Nat} (h : sumTo n (fun j => if K j = nil then 0 else 1) < n) : ∃ i, i < n ∧ K i = nil := by
  induction n with
  | zero => omega
  | succ n ih =>
    rw [sumTo] at h
    by_cases e : K n = nil
    · exact ⟨n, by omega, e⟩
    · rw [if_neg e] at h
      obtain ⟨i, h1, h2⟩ := ih (by omega)
      exact ⟨i, by omega, h2⟩

/-- A new key with a value goes in while there is room: one node more; which keys there are then. -/
theorem put_new {z : Nat} {g : G} {k v : V} (hi : Inv z (pl z) KOK g) (hz : pw z = true) (hk : KOK k) (hv : fm v = true) (hv0 : v.1 ≠ 0) (hnew : ∀ i, i < z → g.K i ≠ k) (hroom : held g z < z) :
    (put z g k v).2.2 = 0 ∧ held (put z g k v).1 z = held g z + 1 ∧ ∀ i, i < z → (put z g k v).1.K i = k ∨ (put z g k v).1.K i = nil ∨ ∃ j, j < z ∧ (put z g k v).1.K i = g.K j := by
  have hz0 : z ≠ 0 := by omega
  have hpl := pl_lt hz k
  have hfn : ∃ n, find (pl z) g k = (none, n) := by
    cases hf : find (pl z) g k with
    | mk o n =>
      cases o with
      | none => exact ⟨n, rfl⟩
      | some i =>
        have := hi.find_some (fun k _ => pl_lt hz k) hk hf
        exact absurd this.1 (hnew i this.2.1)
  obtain ⟨n, hfn⟩ := hfn
  have e : put z g k v = ((ins (pl z) g k v).1, n, full (ins (pl z) g k v).2) := by
    rw [put, if_pos ⟨hk.1, hv⟩, if_neg hk.2.1, if_neg hz0, hfn]
    exact if_neg hv0
  rw [e]
  unfold held
  generalize hM : pl z k = m at *
  by_cases hE : g.K m = nil
  · have e2 : ins (pl z) g k v = (ins0 g m k v, true) := by rw [ins, hM, if_pos hE]
    rw [e2]
    refine ⟨rfl, held_new hpl hE (by show upd g.K m k m ≠ nil; rw [upd_at]; exact hk.ne) (fun i hi2 => by show upd g.K m k i = nil ↔ _; rw [upd_ne _ _ hi2]), fun i hi2 => ?_⟩
    show upd g.K m k i = k ∨ upd g.K m k i = nil ∨ ∃ j, j < z ∧ upd g.K m k i = g.K j
    by_cases q : i = m
    · rw [q, upd_at]; exact .inl rfl
    · rw [upd_ne _ _ q]; exact .inr (.inr ⟨i, hi2, rfl⟩)
  · obtain ⟨i0, hi0, hn0⟩ := room_ex hroom
    obtain ⟨a, ha⟩ := hi.room hi0 hn0
    obtain ⟨t1, t2, t3⟩ := tf_some ha
    have haz : a < z := Nat.lt_of_lt_of_le t1 hi.fle
    have ham : a ≠ m := fun x => hE (x ▸ t2)
    by_cases hO : pl z (g.K m) = m
    · have e2 : ins (pl z) g k v = (ins1 g m a k v, true) := by rw [ins, hM, if_neg hE, ha]; simp only; rw [if_pos hO]
      rw [e2]
      refine ⟨rfl, held_new haz t2 (by show upd g.K a k a ≠ nil; rw [upd_at]; exact hk.ne) (fun i hi2 => by show upd g.K a k i = nil ↔ _; rw [upd_ne _ _ hi2]), fun i hi2 => ?_⟩
      show upd g.K a k i = k ∨ upd g.K a k i = nil ∨ ∃ j, j < z ∧ upd g.K a k i = g.K j
      by_cases q : i = a
      · rw [q, upd_at]; exact .inl rfl
      · rw [upd_ne _ _ q]; exact .inr (.inr ⟨i, hi2, rfl⟩)
    · have e2 : ins (pl z) g k v = (ins2 g (pl z (g.K m)) m a k v, true) := by rw [ins, hM, if_neg hE, ha]; simp only; rw [if_neg hO]
      rw [e2]
      refine ⟨rfl, held_new haz t2 (by show upd (upd g.K a (g.K m)) m k a ≠ nil; rw [upd_ne _ _ ham, upd_at]; exact hE) (fun i hi2 => ?_), fun i hi2 => ?_⟩
      · show upd (upd g.K a (g.K m)) m k i = nil ↔ _
        by_cases q : i = m
        · rw [q, upd_at]; exact ⟨fun x => absurd x hk.ne, fun x => absurd x hE⟩
        · rw [upd_ne _ _ q, upd_ne _ _ hi2]
      · show upd (upd g.K a (g.K m)) m k i = k ∨ upd (upd g.K a (g.K m)) m k i = nil ∨ ∃ j, j < z ∧ upd (upd g.K a (g.K m)) m k i = g.K j
        by_cases q : i = m
        · rw [q, upd_at]; exact .inl rfl
        · rw [upd_ne _ _ q]
          by_cases q2 : i = a
          · rw [q2, upd_at]; exact .inr (.inr ⟨m, hpl, rfl⟩)
          · rw [upd_ne _ _ q2]; exact .inr (.inr ⟨i, hi2, rfl⟩)
/-- A new key where all nodes hold keys: ErrFull, and the free pointer alone has changed. -/
theorem put_full {z : Nat} {g : G} {k v : V} (hi : Inv z (pl z) KOK g) (hz : pw z = true) (hk : KOK k) (hv : fm v = true) (hv0 : v.1 ≠ 0) (hnew : ∀ i, i < z → g.K i ≠ k) (hfull : held g z = z) :
    ∃ n, put z g k v = ({ g with f := 0 }, n, 12) := by
  have hz0 : z ≠ 0 := by have := (pw_bounds z hz).1; omega
  have hpl := pl_lt hz k
  have hall := full_all hfull
  have hfn : ∃ n, find (pl z) g k = (none, n) := by
    cases hf : find (pl z) g k with
    | mk o n =>
      cases o with
      | none => exact ⟨n, rfl⟩
      | some i =>
        have := hi.find_some (fun k _ => pl_lt hz k) hk hf
        exact absurd this.1 (hnew i this.2.1)
  obtain ⟨n, hfn⟩ := hfn
  have ht : tf g.K g.f = none := by
    cases ht : tf g.K g.f with
    | none => rfl
    | some a =>
      obtain ⟨t1, t2, t3⟩ := tf_some ht
      exact absurd t2 (hall a (Nat.lt_of_lt_of_le t1 hi.fle))
  have e2 : ins (pl z) g k v = ({ g with f := 0 }, false) := by rw [ins, if_neg (hall _ hpl), ht]
  refine ⟨n, ?_⟩
  rw [put, if_pos ⟨hk.1, hv⟩, if_neg hk.2.1, if_neg hz0, hfn]
  simp only
  rw [if_neg hv0, e2]
  rfl
end Go.Proofs.YtpmmploedkbeoaaGreatDoor
