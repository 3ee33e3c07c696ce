/- The walks of few, of ops and of same (laws of the heap). -/
import Derived.Test.YteknjkofmkigoabRy
import Derived.Deep.RegionHeld3
namespace Go.Proofs.Yteknjkofmkigoab.H
open Go.RowKit

def fewO (l : List (Int × Int)) : List (Int × Int) := if 300 < l.length ∧ l.length ≤ 1000 then l.take 300 else l
theorem fewO_len (l : List (Int × Int)) : (fewO l).length ≤ l.length ∧ ((fewO l).length ≤ 300 ∨ 1000 < (fewO l).length) := by
  unfold fewO
  split
  · rw [List.length_take]; omega
  · omega
set_option maxHeartbeats 1000000 in
theorem few_any (l : List (Int × Int)) (v : Value) (w : World) (h : Ops w.heap.size w v l) (hl : l.length ≤ 9223372036854775807) :
    Calls Try.prog 14 #[v] w fun e w' => ∃ v', e = .returned v' ∧ w' = w ∧ Ops w.heap.size w v' (fewO l) := by
  obtain ⟨a, cap, rfl, hcap, h⟩ := h
  by_cases hq : 300 < l.length ∧ l.length ≤ 1000
  · have HI : Hid (Ops w.heap.size w (.slice a 300 cap) (fewO l)) := by
      have e : fewO l = l.take 300 := if_pos hq
      have e2 : (l.take 300).length = 300 := by rw [List.length_take]; omega
      rw [e]
      refine ⟨a, cap, by rw [e2], by rw [e2]; omega, fun hne => ?_⟩
      obtain ⟨b, off, q1, q2, q3⟩ := h (fun q => by rw [q] at hq; simp at hq)
      refine ⟨b, off, q1, q2, fun i hi => ?_⟩
      rw [e2] at hi
      have := q3 i (by omega)
      rw [List.getD, List.getElem?_take, if_pos hi]
      exact this
    have h1 : (300 : Int) < (l.length : Int) := by omega
    have h2 : (l.length : Int) ≤ 1000 := by omega
    have h3 : (300 : Int) ≤ (cap : Int) := by omega
    clear h hq
    generalize l.length = L at *
    go_enter Try.func14, Try.ntmps14
    go_wp2_with fail
    go_ret
    exact ⟨_, rfl, rfl, HI.out⟩
  · have HI : Hid (Ops w.heap.size w (.slice a l.length cap) (fewO l)) := by
      have e : fewO l = l := if_neg hq
      rw [e]
      exact ⟨a, cap, rfl, hcap, h⟩
    clear h
    by_cases h1 : 300 < l.length
    · have h1' : (300 : Int) < (l.length : Int) := by omega
      have h2 : ¬ (l.length : Int) ≤ 1000 := by omega
      clear hq h1
      generalize l.length = L at *
      go_enter Try.func14, Try.ntmps14
      go_wp2_with fail
      go_ret
      exact ⟨_, rfl, rfl, HI.out⟩
    · have h1' : ¬ (300 : Int) < (l.length : Int) := by omega
      clear hq h1
      generalize l.length = L at *
      go_enter Try.func14, Try.ntmps14
      go_wp2_with fail
      go_ret
      exact ⟨_, rfl, rfl, HI.out⟩

theorem info56 : (Try.prog.info? 56).map (fun i => (i.zero, i.size, i.bytes)) = some (some (.agg #[.int .i64 0, .int .i64 0]), 2, 16) := by kernel_rfl
theorem rc_snoc (l : List (Int × Int)) (k : Nat) (h : k < l.length) : rcells (l.take (k + 1)) = rcells (l.take k) ++ [.int .i64 (l.getD k (0, 0)).1, .int .i64 (l.getD k (0, 0)).2] := by
  have e : l.take (k + 1) = l.take k ++ [l.getD k (0, 0)] := by rw [List.take_add_one, List.getD, List.getElem?_eq_getElem h]; rfl
  rw [e, rcells_app]
  rfl
theorem ops_own {B : Nat} {w : World} {v : Value} {l : List (Int × Int)} (h : w.ownsRow B 56 2 v l.length (rcells l)) : Ops w.heap.size w v l := by
  obtain ⟨a, cap, rfl, hcap⟩ := slice_of h
  refine ⟨a, cap, rfl, hcap, fun hne => ?_⟩
  have h0 : 0 < l.length := by cases l; exact absurd rfl hne; simp
  obtain ⟨g, cap', q, hg, hlt⟩ := h.form h0
  injection q with q1 _ q3
  subst q1 q3
  refine ⟨g, 0, rfl, hlt, fun i hi => ?_⟩
  have hb := rcells_get l i hi
  rw [Nat.zero_add, h.cellAt (i * 2) (by omega), h.cellAt (i * 2 + 1) (by omega), List.getD, List.getElem?_eq_getElem hi]
  exact hb

set_option maxRecDepth 20000 in
set_option maxHeartbeats 2000000 in
theorem ops_any (l : List (Int × Int)) (v : Value) (w : World) (h : Ops w.heap.size w v l) (hl : l.length * 16 ≤ 140737488355328) :
    Calls Try.prog 16 #[v] w fun e w' => ∃ v', e = .returned v' ∧ w'.ownsRow w.heap.size 56 2 v' l.length (rcells l) ∧ Below w.heap.size w w' := by
  obtain ⟨i0, hi0, hz0, hz1, hz2⟩ := info_parts info56
  obtain ⟨a, cap, rfl, hcap, h⟩ := h
  have HC : Hid _ := h
  have HL : Hid (l ≠ [] ↔ 0 < l.length) := by
    show _ ↔ _
    cases l <;> simp
  have HS : Hid (∀ k, k < l.length → rcells (l.take (k + 1)) = rcells (l.take k) ++ [.int .i64 (l.getD k (0, 0)).1, .int .i64 (l.getD k (0, 0)).2]) := fun k hk => rc_snoc l k hk
  have HE : Hid (rcells (l.take l.length) = rcells l) := (show rcells (l.take l.length) = rcells l by rw [List.take_length])
  clear h hcap
  obtain ⟨L, hL⟩ : ∃ L, l.length = L := ⟨_, rfl⟩
  rw [hL] at HC HL HS HE hl ⊢
  clear hL
  go_enter Try.func16, Try.ntmps16
  go_wp2_with fail
  go_loopw [3, 4] (fun u i wr => ∃ k : Nat, i = .int .i64 k ∧ k ≤ L ∧ ∃ au cu, u = .slice au k cu ∧ Hid (wr.ownsRow w.heap.size 56 2 (.slice au k cu) k (rcells (l.take k))) ∧ Below w.heap.size w wr) (fun _ i _ => L - (intOf i).toNat)
  case atStart => exact ⟨0, rfl, by omega, none, 0, rfl, World.ownsRow_nil _ _ _ _, Below.refl _ _⟩
  case round =>
    obtain ⟨k, rfl, hk, au, cu, rfl, HO, hb⟩ := hrel
    have hbs := hb.size
    by_cases hlt : k < L
    · have hlt' : (k : Int) < (L : Int) := by omega
      obtain ⟨g, off, rfl, hg, hc⟩ := HC.out (HL.out.2 (by omega))
      obtain ⟨q0, q1⟩ := hc k hlt
      have d0 := (hb.cell (by exact hg)).trans q0
      have d1 := (hb.cell (by exact hg)).trans q1
      have lg : g < wr.heap.size := by omega
      have ng : some g ≠ (Value.slice au k cu).ownBlock := fun e => by have := (World.ownsRow.lt HO.out g e.symm).1; omega
      have HS2 : Hid _ := HS.out k hlt
      clear hc HC q0 q1 HS HE HL
      generalize (l.getD k (0, 0)).1 = x at *
      generalize (l.getD k (0, 0)).2 = y at *
      generalize rcells (l.take k) = bc at *
      go_wp2_with fail
      go_region_held3 (fun w' => w'.cell? ⟨g, off + k * 2, none⟩ = some (.int .i64 x) ∧ w'.cell? ⟨g, off + k * 2 + 1, none⟩ = some (.int .i64 y))
        (first
          | (go_split_ands; refine ⟨by go_keep, by go_keep⟩)
          | (go_split_ands
             refine ⟨?_, ?_⟩
             · (rw [hgrow1.cell_far _ (by simp; omega) ng]; go_keep)
             · (rw [hgrow1.cell_far _ (by simp; omega) ng]; go_keep)))
        ((refine step_append_lies _ (by rfl) _ _ _ (by rfl) w.heap.size 56 i0 _ 2 16 Try.underlying34 hi0 hz0 hz1 hz2 rfl (by omega) (.slice au k cu) k bc (by rfl) (World.ownsRow.drew (World.ownsRow.alloc HO.out _)) ⟨wr.heap.size, 0, none⟩ 1 1 [.int .i64 x, .int .i64 y] (by rfl) (by rfl) (World.news_of_block (cs := #[.int .i64 x, .int .i64 y]) (t := 56) (fr := (0, 0)) (heap_alloc_new wr _)) (by simp [Value.oneCell']) (by omega) (by unfold maxLen; omega) (by omega) (by simp; omega) (wr.heap.size + 1) (by simp) ?_; intro g1 c1 w4 hown1 hgrow1 hat1 hlt1))
      all_goals
        go_wp2_with fail
        go_roundw
        case rel => exact ⟨k + 1, by go_num, by omega, _, _, rfl, by rw [show rcells (l.take (k + 1)) = _ from HS2.out]; exact hown1, (hb.alloc hbs _).drew.grown hgrow1 (by simp; omega) (fun q e => (World.ownsRow.lt HO.out q e).1)⟩
        case measure => simp [intOf]; omega
    · obtain rfl : k = L := by omega
      go_wp2_with fail
      go_ret
      exact ⟨_, rfl, by rw [← show rcells (l.take k) = _ from HE.out]; exact HO.out, hb⟩

/-- The answers of the reference, read cell by cell. -/
theorem gcs_len (n : Int) (l : List (Int × Int)) (k : Nat) : (gcs n l k).length = k * 4 := by
  induction k with
  | zero => rfl
  | succ k ih => simp only [gcs, List.length_append, ih]; simp; omega
theorem gcs_get (n : Int) (l : List (Int × Int)) (k i j : Nat) (hi : i < k) (hj : j < 4) : (gcs n l k)[i * 4 + j]? = some (.int .i64 (gotAt n l i j)) := by
  induction k with
  | zero => omega
  | succ k ih =>
    simp only [gcs]
    by_cases hik : i < k
    · rw [List.getElem?_append_left (by rw [gcs_len]; omega)]; exact ih hik
    · have : i = k := by omega
      subst this
      rw [List.getElem?_append_right (by rw [gcs_len]; omega), gcs_len, show i * 4 + j - i * 4 = j by omega]
      match j, hj with
      | 0, _ => rfl
      | 1, _ => rfl
      | 2, _ => rfl
      | 3, _ => rfl

set_option maxRecDepth 20000 in
set_option maxHeartbeats 4000000 in
theorem sameG_any (n : Int) (l : List (Int × Int)) (G : Nat) (u : Value) (w : World) (B : Nat) (hG : Gots G l.length w n l l.length) (hu : w.ownsRow B 66 4 u l.length (gcs n l l.length)) (hl : l.length ≤ 1000) :
    Calls Try.prog 19 #[.slice (some ⟨G, 0, none⟩) l.length l.length, u] w fun e w' => e = .returned (.bool true) ∧ Below w.heap.size w w' := by
  obtain ⟨au, cu, rfl, hcu⟩ := slice_of hu
  have HA : Hid (∀ i, i < l.length → w.cell? ⟨G, i * 4, none⟩ = some (.int .i64 (gotAt n l i 0)) ∧ w.cell? ⟨G, i * 4 + 1, none⟩ = some (.int .i64 (gotAt n l i 1)) ∧ w.cell? ⟨G, i * 4 + 2, none⟩ = some (.int .i64 (gotAt n l i 2)) ∧ w.cell? ⟨G, i * 4 + 3, none⟩ = some (.int .i64 (gotAt n l i 3))) := fun i hi =>
    ⟨hG.done i 0 hi hi (by omega), hG.done i 1 hi hi (by omega), hG.done i 2 hi hi (by omega), hG.done i 3 hi hi (by omega)⟩
  have HB : Hid (∀ i, i < l.length → ∃ g, au = some ⟨g, 0, none⟩ ∧ w.cell? ⟨g, i * 4, none⟩ = some (.int .i64 (gotAt n l i 0)) ∧ w.cell? ⟨g, i * 4 + 1, none⟩ = some (.int .i64 (gotAt n l i 1)) ∧ w.cell? ⟨g, i * 4 + 2, none⟩ = some (.int .i64 (gotAt n l i 2)) ∧ w.cell? ⟨g, i * 4 + 3, none⟩ = some (.int .i64 (gotAt n l i 3))) := fun i hi => by
    obtain ⟨g, cap', q, _, _⟩ := hu.form (by omega)
    injection q with q1 _ q3
    subst q1 q3
    refine ⟨g, rfl, ?_, ?_, ?_, ?_⟩
    · rw [hu.cellAt (i * 4) (by omega)]; exact gcs_get n l l.length i 0 hi (by omega)
    · rw [hu.cellAt (i * 4 + 1) (by omega)]; exact gcs_get n l l.length i 1 hi (by omega)
    · rw [hu.cellAt (i * 4 + 2) (by omega)]; exact gcs_get n l l.length i 2 hi (by omega)
    · rw [hu.cellAt (i * 4 + 3) (by omega)]; exact gcs_get n l l.length i 3 hi (by omega)
  clear hG hu
  obtain ⟨L, hL⟩ : ∃ L, l.length = L := ⟨_, rfl⟩
  rw [hL] at HA HB hcu hl ⊢
  clear hL
  go_enter Try.func19, Try.ntmps19
  go_wp2_with fail
  go_loopw [5] (fun i wr => ∃ k : Nat, i = .int .i64 k ∧ k ≤ L ∧ ∃ m, wr = w.drewN m) (fun i _ => L - (intOf i).toNat)
  case atStart => exact ⟨0, rfl, by omega, 0, rfl⟩
  case round =>
    obtain ⟨k, rfl, hk, mm, rfl⟩ := hrel
    by_cases hlt : k < L
    · have hlt' : (k : Int) < (L : Int) := by omega
      obtain ⟨p0, p1, p2, p3⟩ := HA.out k hlt
      obtain ⟨g, rfl, r0, r1, r2, r3⟩ := HB.out k hlt
      clear HA HB
      generalize gotAt n l k 0 = t0 at *
      generalize gotAt n l k 1 = t1 at *
      generalize gotAt n l k 2 = t2 at *
      generalize gotAt n l k 3 = t3 at *
      go_wp2_with fail
      go_quiet (fail)
      go_wp2_with fail
      go_roundw
      case rel => exact ⟨k + 1, by go_num, by omega, _, rfl⟩
      case measure => simp [intOf]; omega
    · obtain rfl : k = L := by omega
      go_wp2_with fail
      go_ret
      exact ⟨rfl, ⟨rfl, rfl, rfl, Nat.le_refl _, fun _ _ => rfl⟩⟩
end Go.Proofs.Yteknjkofmkigoab.H
