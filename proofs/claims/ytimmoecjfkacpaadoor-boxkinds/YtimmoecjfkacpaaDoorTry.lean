/- The walk of Try. -/
import Derived.Test.YtimmoecjfkacpaaDoorPa
import Derived.Laws.MakeOwn
import Derived.OwnWalk
import Derived.MapKept
namespace Go.Proofs.YtimmoecjfkacpaaDoor
open Go.RowKit

theorem cell_of_row {w : World} {g : Nat} {cs : Array Value} {t : TypeId} (h : w.heap[g]? = some (.cells cs t)) (i : Nat) : w.cell? ⟨g, i, none⟩ = cs[i]? := by
  unfold World.cell?
  rw [h]
  simp
theorem new_free (w : World) (cs : Array Value) (t : TypeId) (i : Nat) : (w.alloc (.cells cs t)).frozen? ⟨w.heap.size, i, none⟩ = false := by
  unfold World.frozen?
  rw [(MapKept.heap_alloc w _).1]
  simp
theorem info4 : (Tryd.prog.info? 4).map (fun i => (i.zero, i.size, i.bytes)) = some (some (.bool false), 1, 1) := by kernel_rfl
theorem made_bool (w : World) (n i : Nat) (h : i < n) : (w.alloc (.cells (madeCells (Value.bool false).cells (n * 1)) 4)).cell? ⟨w.heap.size, i, none⟩ = some (.bool false) := by
  rw [cell_of_row (MapKept.heap_alloc w _).1]
  simp [madeCells, Value.cells, h, Nat.mod_one]
theorem make_bool (m : Nat) (hm : m ≤ 140737488355328) (W : World) : (Instr.makeSlice 36 (.int .i64 m) (.int .i64 m)).run Tryd.prog W = .ok (.slice (some ⟨W.heap.size, 0, none⟩) m m) (W.alloc (.cells (madeCells (Value.bool false).cells (m * 1)) 4)) := by
  obtain ⟨i0, hi, hz0, hz1, hz2⟩ := info_parts info4
  have h := run_make (P := Tryd.prog) W 36 4 i0 (.bool false) Tryd.underlying36 hi hz0 .i64 .i64 m m (by omega) (Int.le_refl _) (by rw [hz2]; omega) (by omega)
  rw [hz1] at h
  simpa using h

/-- The row of L values that lies in block g. -/
structure Vals (w : World) (g L : Nat) (K N : Nat → Int) (S : Nat → ByteArray) : Prop where
  k : ∀ i, i < L → w.cell? ⟨g, i * 3, none⟩ = some (.int .i64 (K i))
  n : ∀ i, i < L → w.cell? ⟨g, i * 3 + 1, none⟩ = some (.int .i64 (N i))
  s : ∀ i, i < L → w.cell? ⟨g, i * 3 + 2, none⟩ = some (.string (S i))
  b0 : ∀ i, i < L → -9223372036854775808 ≤ N i
  b1 : ∀ i, i < L → N i ≤ 9223372036854775807
  lt : g < w.heap.size
theorem Vals.below {w w' : World} {g L : Nat} {K N : Nat → Int} {S : Nat → ByteArray} (h : Vals w g L K N S) (hb : Below w.heap.size w w') : Vals w' g L K N S :=
  ⟨fun i hi => by rw [hb.cell (by exact h.lt)]; exact h.k i hi, fun i hi => by rw [hb.cell (by exact h.lt)]; exact h.n i hi, fun i hi => by rw [hb.cell (by exact h.lt)]; exact h.s i hi, h.b0, h.b1, Nat.lt_of_lt_of_le h.lt hb.size⟩

set_option maxHeartbeats 1000000 in
theorem try_some (g L cap : Nat) (K N : Nat → Int) (S : Nat → ByteArray) (q : Int) (w : World) (hv : Vals w g L K N S) (hL : L ≤ 140737488355328) :
    Calls Tryd.prog 19 #[.slice (some ⟨g, 0, none⟩) L cap, .int .i64 q] w fun e w' => e = .returned (.slice (some ⟨w.heap.size, 0, none⟩) L L) ∧
      (∀ i, i < L → w'.cell? ⟨w.heap.size, i, none⟩ = some (.bool (!fits (K i) (N i) (S i) q))) ∧ Below w.heap.size w w' ∧ w.heap.size < w'.heap.size := by
  have hmk := make_bool L hL w
  have m1 := made_bool w L
  have m2 := new_free w (madeCells (Value.bool false).cells (L * 1)) 4
  have m3 : Below w.heap.size w (w.alloc (.cells (madeCells (Value.bool false).cells (L * 1)) 4)) := (Below.refl _ _).alloc (Nat.le_refl _) _
  obtain ⟨W1, hW1⟩ : ∃ W1, W1 = (w.alloc (.cells (madeCells (Value.bool false).cells (L * 1)) 4)) := ⟨_, rfl⟩
  have m4 : w.heap.size < W1.heap.size := by rw [hW1]; simp
  rw [← hW1] at hmk m1 m2 m3
  have M1 : Hid _ := m1
  have M2 : Hid _ := m2
  have HV : Hid _ := hv
  clear hW1 m1 m2 hv
  obtain ⟨G, hG⟩ : ∃ G, w.heap.size = G := ⟨_, rfl⟩
  rw [hG] at hmk M1 M2 m3 m4 ⊢
  have hgG : g < G := by rw [← hG]; exact HV.out.lt
  go_enter Tryd.func19, Tryd.ntmps19
  go_wp2
  go_loopw [13] (fun i wr => ∃ k : Nat, i = .int .i64 k ∧ k ≤ L ∧ Hid (∀ j, j < L → wr.cell? ⟨G, j, none⟩ = some (.bool (if j < k then !fits (K j) (N j) (S j) q else false))) ∧ Hid (∀ j, wr.frozen? ⟨G, j, none⟩ = false) ∧ Below G w wr ∧ G < wr.heap.size) (fun i _ => L - (intOf i).toNat)
  case atStart => exact ⟨0, rfl, by omega, fun j hj => by rw [M1.out j hj]; simp, M2, m3, m4⟩
  case round =>
    obtain ⟨k, rfl, hk, HC, HF, hb, hs⟩ := hrel
    by_cases hlt : k < L
    · have hlt' : (k : Int) < (L : Int) := by omega
      have c1 : wr.cell? ⟨g, k * 3, none⟩ = some (.int .i64 (K k)) := by rw [hb.cell (by exact hgG)]; exact HV.out.k k hlt
      have c2 : wr.cell? ⟨g, k * 3 + 1, none⟩ = some (.int .i64 (N k)) := by rw [hb.cell (by exact hgG)]; exact HV.out.n k hlt
      have c3 : wr.cell? ⟨g, k * 3 + 2, none⟩ = some (.string (S k)) := by rw [hb.cell (by exact hgG)]; exact HV.out.s k hlt
      have C := panics_any (K k) (N k) (S k) q (HV.out.b0 k hlt) (HV.out.b1 k hlt)
      have hx : ∀ j, (if j < k + 1 then !fits (K j) (N j) (S j) q else false) = if j = k then (!fits (K k) (N k) (S k) q) else (if j < k then !fits (K j) (N j) (S j) q else false) := by
        intro j
        by_cases h1 : j = k
        · subst h1; rw [if_pos (by omega), if_pos rfl]
        · rw [if_neg h1]
          by_cases h2 : j < k
          · rw [if_pos h2, if_pos (by omega)]
          · rw [if_neg h2, if_neg (by omega)]
      have HX : Hid _ := hx
      clear hx
      unfold vl at C
      generalize (!fits (K k) (N k) (S k) q) = r at *
      generalize K k = kk at *
      generalize N k = nn at *
      generalize S k = ss at *
      go_wp2_with fail
      refine (C _).mono ?_
      rintro e w2 ⟨rfl, hb2⟩
      have hw : Below wr.heap.size wr w2 := bthen (b1 wr _) (by simp) hb2
      have HC2 : Hid (∀ j, j < L → w2.cell? ⟨G, j, none⟩ = some (.bool (if j < k then !fits (K j) (N j) (S j) q else false))) := fun j hj => by rw [hw.cell (by exact hs)]; exact HC.out j hj
      have HF2 : Hid (∀ j, w2.frozen? ⟨G, j, none⟩ = false) := fun j => by rw [hw.frozen (by exact hs)]; exact HF.out j
      have c4 := HC2.out k hlt
      have f4 := HF2.out k
      have hsz : G < w2.heap.size := Nat.lt_of_lt_of_le hs hw.size
      have hbG : Below G w w2 := hb.trans (hw.mono (by omega))
      clear hb2 hw HC HF hb C c1 c2 c3
      go_wp2
      go_roundw
      case rel =>
        refine ⟨k + 1, by go_num, by omega, fun j hj => ?_, fun j => ?_, hbG.setCell (by simp) _, by simpa using hsz⟩
        · rw [HX.out j]
          by_cases hjk : j = k
          · subst hjk
            rw [World.cell?_setCell_same _ _ _ c4, if_pos rfl]
          · rw [World.cell?_setCell_other _ _ _ _ (fun q => by injection q with _ q2; omega), if_neg hjk]
            exact HC2.out j hj
        · rw [World.frozen?_setCell]; exact HF2.out j
      case measure => simp [intOf]; omega
    · go_wp2
      go_ret
      refine ⟨rfl, fun i hi => ?_, hb, hs⟩
      rw [HC.out i hi, if_pos (by omega)]

set_option maxHeartbeats 600000 in
theorem try_none (a : Option Addr) (cap : Nat) (q : Int) (w : World) :
    Calls Tryd.prog 19 #[.slice a 0 cap, .int .i64 q] w fun e w' => e = .returned (.slice (some ⟨w.heap.size, 0, none⟩) 0 0) ∧ Below w.heap.size w w' := by
  obtain ⟨o, hmk⟩ : ∃ o, (Instr.makeSlice 36 (.int .i64 0) (.int .i64 0)).run Tryd.prog w = .ok (.slice (some ⟨w.heap.size, 0, none⟩) 0 0) (w.alloc o) := ⟨_, make_bool 0 (by omega) w⟩
  go_enter Tryd.func19, Tryd.ntmps19
  go_wp2
  refine wp_loop_rounds 1 ?_
  rw [rounds_succ]
  go_wp2
  go_ret
  refine ⟨rfl, ?_⟩
  repeat (first | exact Below.refl _ _ | refine Below.alloc ?_ (by simp; try omega) _)

set_option maxHeartbeats 600000 in
theorem mkI (n : Int) (w : World) : Calls Tryd.prog 33 #[.int .i64 n] w fun e w' => e = .returned (vl 2 n ⟨#[]⟩) ∧ w' = w.alloc (vb 2 n ⟨#[]⟩) := by
  go_enter Tryd.func33, Tryd.ntmps33
  go_wp2
  exact bodyPost_ret (v := vl 2 n ⟨#[]⟩) (by simp [results, Tryd.results33, go_sem]) rfl ⟨rfl, rfl⟩
set_option maxHeartbeats 600000 in
theorem mkS (s : ByteArray) (w : World) : Calls Tryd.prog 34 #[.string s] w fun e w' => e = .returned (vl 3 0 s) ∧ w' = w.alloc (vb 3 0 s) := by
  go_enter Tryd.func34, Tryd.ntmps34
  go_wp2
  exact bodyPost_ret (v := vl 3 0 s) (by simp [results, Tryd.results34, go_sem]) rfl ⟨rfl, rfl⟩
set_option maxHeartbeats 600000 in
theorem mkT (n : Int) (w : World) : Calls Tryd.prog 35 #[.int .i64 n] w fun e w' => e = .returned (vl 4 n ⟨#[]⟩) ∧ w' = w.alloc (vb 4 n ⟨#[]⟩) := by
  go_enter Tryd.func35, Tryd.ntmps35
  go_wp2
  exact bodyPost_ret (v := vl 4 n ⟨#[]⟩) (by simp [results, Tryd.results35, go_sem]) rfl ⟨rfl, rfl⟩

end Go.Proofs.YtimmoecjfkacpaaDoor
