/- The walks of New, At, Get. -/
import Derived.Test.YtbkgbojfjijalaaPv
namespace Go.Proofs.Ytbkgbojfjijalaa
open Go.RowKit

/-- An empty part. -/
def g0 (z : Nat) : G := { K := fun _ => nil, X := fun _ => nil, C := fun _ => [], f := z }
theorem g0_inv (z : Nat) (pl : V → Nat) : Inv z pl KOK (g0 z) :=
  ⟨fun _ _ => .inl rfl, fun _ _ _ => rfl, fun _ _ _ h => (by cases h), fun _ _ => List.nodup_nil, fun _ _ => .inl rfl, fun _ _ h => absurd rfl h, fun _ _ _ _ h _ => absurd rfl h, Nat.le_refl _, fun i hi hf => absurd hi (by show ¬ i < z; exact Nat.not_lt.2 hf)⟩
theorem nf_g0 (z i j : Nat) : nf (pl z) (g0 z) i j = nc nil nil 0 j := by
  unfold nf
  rw [link_no (g := g0 z) rfl]
  rfl
theorem cell_of_row {w : World} {g : Nat} {cs : Array Value} {t : TypeId} (h : w.heap[g]? = some (.cells cs t)) (i : Nat) : w.cell? ⟨g, i, none⟩ = cs[i]? := by
  unfold World.cell?
  rw [h]
  simp
theorem new_free (w : World) (cs : Array Value) (t : TypeId) (i : Nat) : (w.alloc (.cells cs t)).frozen? ⟨w.heap.size, i, none⟩ = false := by
  unfold World.frozen?
  rw [(MapKept.heap_alloc w _).1]
  simp
theorem info54 : (Try.prog.info? 54).map (fun i => (i.zero, i.size, i.bytes)) = some (some (vn nil nil 0), 7, 72) := by kernel_rfl
abbrev zeros7 (n : Nat) : Array Value := madeCells (vn nil nil 0).cells (n * 7)
theorem made_node (w : World) (n : Nat) : Rc (w.alloc (.cells (zeros7 n) 54)) w.heap.size n (fun _ j => nc nil nil 0 j) := ⟨fun i hi j hj => by
  rw [cell_of_row (MapKept.heap_alloc w _).1]
  have h : i * 7 + j < n * 7 := by omega
  have hm : (i * 7 + j) % 7 = j := by omega
  have h' : i * 7 < n * 7 := by omega
  rcases lt7 hj with rfl | rfl | rfl | rfl | rfl | rfl | rfl <;> simp [zeros7, madeCells, Value.cells, nc, h, h', hm]⟩
theorem make_node (m : Nat) (hm : m ≤ 65536) (W : World) : (Instr.makeSlice 35 (.int .i64 m) (.int .i64 m)).run Try.prog W = .ok (.slice (some ⟨W.heap.size, 0, none⟩) m m) (W.alloc (.cells (zeros7 m) 54)) := by
  obtain ⟨i0, hi, hz0, hz1, hz2⟩ := info_parts info54
  have h := run_make (P := Try.prog) W 35 54 i0 (vn nil nil 0) Try.underlying35 hi hz0 .i64 .i64 m m (by omega) (Int.le_refl _) (by rw [hz2]; omega) (by omega)
  rw [hz1] at h
  simpa using h

abbrev newW (w : World) (z : Nat) : World := (w.alloc (.cells (zeros7 z) 54)).alloc (.cells #[.slice (some ⟨w.heap.size, 0, none⟩) z z, .int .i64 (z : Nat)] 64)
theorem newW_below (w : World) (z : Nat) : Below w.heap.size w (newW w z) := b2 _ _ _
theorem newW_pt (w : World) (z : Nat) : Pt (newW w z) (w.heap.size + 1) w.heap.size z (g0 z) := by
  have hs : (w.alloc (.cells (zeros7 z) 54)).heap.size = w.heap.size + 1 := by simp
  have hb := b1 (w.alloc (.cells (zeros7 z) 54)) (.cells #[.slice (some ⟨w.heap.size, 0, none⟩) z z, .int .i64 (z : Nat)] 64)
  refine ⟨?_, ?_, ?_, fun j => ?_, fun j => ?_, by omega, by simp, by simp; omega⟩
  · have h0 := cell_of_row (MapKept.heap_alloc (w.alloc (.cells (zeros7 z) 54)) (.cells #[.slice (some ⟨w.heap.size, 0, none⟩) z z, .int .i64 (z : Nat)] 64)).1 0
    rw [hs] at h0; exact h0
  · have h0 := cell_of_row (MapKept.heap_alloc (w.alloc (.cells (zeros7 z) 54)) (.cells #[.slice (some ⟨w.heap.size, 0, none⟩) z z, .int .i64 (z : Nat)] 64)).1 1
    rw [hs] at h0; exact h0
  · exact ((made_node w z).block (hb.block _ (by rw [hs]; omega))).congr fun i _ j _ => (nf_g0 z i j).symm
  · have h0 := new_free (w.alloc (.cells (zeros7 z) 54)) #[.slice (some ⟨w.heap.size, 0, none⟩) z z, .int .i64 (z : Nat)] 64 j
    rw [hs] at h0; exact h0
  · rw [hb.frozen (by rw [hs]; exact Nat.lt_succ_self _)]; exact new_free w _ _ j

def rt (z : Int) : Bool := decide (z = 0) || pw z
theorem Rt.of {z : Int} (h : rt z = true) : ∃ n : Nat, z = n ∧ Rt n := by
  simp only [rt, Bool.or_eq_true, decide_eq_true_eq] at h
  rcases h with h | h
  · exact ⟨0, h, .inl rfl⟩
  · exact ⟨z.toNat, by have := pw_bounds z h; omega, .inr (by rw [show ((z.toNat : Nat) : Int) = z by have := pw_bounds z h; omega]; exact h)⟩
theorem Rt.to {n : Nat} (h : Rt n) : rt n = true := by
  simp only [rt, Bool.or_eq_true, decide_eq_true_eq]
  rcases h with h | h
  · exact .inl (by rw [h]; rfl)
  · exact .inr h
theorem and0 : bits .and .i64 0 (-1) = 0 := by decide
theorem and_pw {z : Int} (h : 1 ≤ z ∧ z ≤ 65536) : bits .and .i64 z (z - 1) = ((z.toNat &&& (z.toNat - 1) : Nat) : Int) := by
  have := i64_and_nat z.toNat (z.toNat - 1) (by omega) (by omega)
  rw [show ((z.toNat : Nat) : Int) = z by omega, show ((z.toNat - 1 : Nat) : Int) = z - 1 by omega] at this
  exact this

set_option maxHeartbeats 2000000 in
theorem new_any (n : Nat) (w : World) (h : Rt n) : Calls Try.prog 11 #[.int .i64 (n : Nat)] w fun e w' => e = .returned (.tuple #[pp (w.heap.size + 1), .int .i64 0]) ∧ w' = newW w n := by
  have hle := h.le
  have hmk := make_node n hle w
  have hs : (w.alloc (.cells (zeros7 n) 54)).heap.size = w.heap.size + 1 := by simp
  obtain ⟨W1, hW1⟩ : ∃ W1, w.alloc (.cells (zeros7 n) 54) = W1 := ⟨_, rfl⟩
  have HW : Hid (newW w n = W1.alloc (.cells #[.slice (some ⟨w.heap.size, 0, none⟩) n n, .int .i64 (n : Nat)] 64)) := by show _ = _; rw [newW, hW1]
  rw [hW1] at hmk hs
  rw [HW.out]
  clear hW1 HW
  unfold pp
  rcases h with rfl | h
  · have ha := and0
    have hmk' : (Instr.makeSlice 35 (.int .i64 0) (.int .i64 0)).run Try.prog w = .ok (.slice (some ⟨w.heap.size, 0, none⟩) 0 0) W1 := hmk
    clear hmk
    show Calls Try.prog 11 #[.int .i64 0] w fun e w' => e = .returned (.tuple #[.pointer (some ⟨w.heap.size + 1, 0, none⟩), .int .i64 0]) ∧ w' = W1.alloc (.cells #[.slice (some ⟨w.heap.size, 0, none⟩) 0 0, .int .i64 0] 64)
    go_enter Try.func11, Try.ntmps11
    go_wp2
    go_ret2
    exact ⟨rfl, rfl⟩
  · have hb := pw_bounds n h
    have ha : bits .and .i64 (n : Int) ((n : Int) - 1) = 0 := by
      rw [and_pw hb]
      simp only [pw, Bool.and_eq_true, decide_eq_true_eq] at h
      rw [h.2]; rfl
    clear h
    go_enter Try.func11, Try.ntmps11
    go_wp2
    go_ret2
    exact ⟨rfl, rfl⟩

set_option maxHeartbeats 2000000 in
theorem new_bad (z : Int) (w : World) (h : rt z = false) : Calls Try.prog 11 #[.int .i64 z] w fun e w' => e = .returned (.tuple #[.pointer none, .int .i64 1]) ∧ w' = w := by
  simp only [rt, Bool.or_eq_false_iff, decide_eq_false_iff_not] at h
  obtain ⟨h0, hp⟩ := h
  by_cases hb : 1 ≤ z ∧ z ≤ 65536
  · have ha : Hid (bits .and .i64 z (z - 1) ≠ 0) := by
      show _ ≠ _
      rw [and_pw hb]
      intro e
      have e2 : z.toNat &&& (z.toNat - 1) = 0 := by omega
      have : pw z = true := by simp only [pw, Bool.and_eq_true, decide_eq_true_eq]; exact ⟨hb, e2⟩
      rw [hp] at this
      cases this
    obtain ⟨h1, h2⟩ := hb
    have ha2 : (bits .and .i64 z (z - 1) != 0) = true := by simpa using ha.out
    clear hp h0
    go_enter Try.func11, Try.ntmps11
    go_wp2
    all_goals (go_ret2; exact ⟨rfl, rfl⟩)
  · clear hp
    go_enter Try.func11, Try.ntmps11
    go_wp2
    all_goals first
      | (go_ret2; exact ⟨rfl, rfl⟩)
      | (exfalso; omega)

/-- A node that At answers. -/
abbrev nn (g : G) (z : Nat) (i : Int) : Value := if 0 ≤ i ∧ i < z then vn (g.K i.toNat) (g.X i.toNat) (link (pl z) g i.toNat) else vn nil nil 0
set_option maxHeartbeats 2000000 in
theorem at_in {b a z : Nat} {g : G} (i : Nat) (w : World) (h : Pt w b a z g) (hi : i < z) :
    Calls Try.prog 25 #[pp b, .int .i64 (i : Nat)] w fun e w' => e = .returned (vn (g.K i) (g.X i) (link (pl z) g i)) ∧ Below w.heap.size w w' := by
  have HW : Hid (Below w.heap.size w (w.alloc (.cells #[.int .i64 (g.K i).1, .int .i64 (g.K i).2.1, .string (g.K i).2.2, .int .i64 (g.X i).1, .int .i64 (g.X i).2.1, .string (g.X i).2.2, .int .i64 (link (pl z) g i)] 54))) := b1 w _
  have P1 : Pt (w.alloc (.cells #[.int .i64 0, .int .i64 0, .string ⟨#[]⟩, .int .i64 0, .int .i64 0, .string ⟨#[]⟩, .int .i64 0] 54)) b a z g := h.below (b1 w _)
  have CS := size_any _ P1
  obtain ⟨k0, k1, k2⟩ := h.k hi
  obtain ⟨x0, x1, x2⟩ := h.x hi
  have l6 := h.l hi
  have c1 := h.all
  have hlt : a < w.heap.size := h.lta
  have hlb : b < w.heap.size := h.ltb
  clear h P1
  unfold pp vn at *
  generalize (g.K i).1 = r0 at *
  generalize (g.K i).2.1 = r1 at *
  generalize (g.K i).2.2 = r2 at *
  generalize (g.X i).1 = s0 at *
  generalize (g.X i).2.1 = s1 at *
  generalize (g.X i).2.2 = s2 at *
  generalize link (pl z) g i = l at *
  have hiz : (i : Int) < (z : Int) := by omega
  have hi0 : ¬ ((i : Int) < 0) := by omega
  go_enter Try.func25, Try.ntmps25
  go_wp2_with fail
  refine CS.mono ?_; rintro e w' ⟨rfl, rfl⟩
  go_wp2_with fail
  refine bodyPost_ret (v := .agg #[.int .i64 r0, .int .i64 r1, .string r2, .int .i64 s0, .int .i64 s1, .string s2, .int .i64 l]) (by simp [results, Try.results25, go_sem]) rfl ⟨rfl, ?_⟩
  exact HW.out
set_option maxHeartbeats 2000000 in
theorem at_out {p : Value} {z : Int} (i : Int) (w : World) (hS : ∀ W, Below w.heap.size w W → Calls Try.prog 14 #[p] W fun e w' => e = .returned (.int .i64 z) ∧ w' = W) (hi : i < 0 ∨ z ≤ i) :
    Calls Try.prog 25 #[p, .int .i64 i] w fun e w' => e = .returned (vn nil nil 0) ∧ Below w.heap.size w w' := by
  have HW : Hid (Below w.heap.size w (w.alloc (.cells #[.int .i64 0, .int .i64 0, .string ⟨#[]⟩, .int .i64 0, .int .i64 0, .string ⟨#[]⟩, .int .i64 0] 54))) := b1 w _
  have CS := hS _ (b1 w (.cells #[.int .i64 0, .int .i64 0, .string ⟨#[]⟩, .int .i64 0, .int .i64 0, .string ⟨#[]⟩, .int .i64 0] 54))
  clear hS
  unfold vn
  by_cases h0 : i < 0
  · clear hi
    go_enter Try.func25, Try.ntmps25
    go_wp2_with fail
    refine bodyPost_ret (v := .agg #[.int .i64 0, .int .i64 0, .string ⟨#[]⟩, .int .i64 0, .int .i64 0, .string ⟨#[]⟩, .int .i64 0]) (by simp [results, Try.results25, go_sem]) rfl ⟨rfl, ?_⟩
    exact HW.out
  · have h1 : z ≤ i := by omega
    clear hi
    go_enter Try.func25, Try.ntmps25
    go_wp2_with fail
    refine CS.mono ?_; rintro e w' ⟨rfl, rfl⟩
    go_wp2_with fail
    refine bodyPost_ret (v := .agg #[.int .i64 0, .int .i64 0, .string ⟨#[]⟩, .int .i64 0, .int .i64 0, .string ⟨#[]⟩, .int .i64 0]) (by simp [results, Try.results25, go_sem]) rfl ⟨rfl, ?_⟩
    exact HW.out

/-- What Get answers. -/
def xAt (g : G) : Option Nat → V
  | none => nil
  | some i => g.X i
def fnd (z : Nat) (g : G) (k : V) : Option Nat × Nat := if z = 0 ∨ fm k = false ∨ k.1 = 0 then (none, 0) else find (pl z) g k
theorem find_all {b a z : Nat} {g : G} (k : V) (w : World) (h : Pt w b a z g) (hi : Inv z (pl z) KOK g) (hz : Rt z) (hr : Rng k) :
    Calls Try.prog 21 #[pp b, vl k.1 k.2.1 k.2.2] w fun e w' => e = .returned (.tuple #[.int .i64 (fi (fnd z g k).1), .int .i64 ((fnd z g k).2 : Nat)]) ∧ Below w.heap.size w w' := by
  unfold fnd
  by_cases hb : z = 0 ∨ fm k = false ∨ k.1 = 0
  · rw [if_pos hb]
    refine find_bad k w h.sizes hr.1 hr.2 (mnE_bad ?_)
    rcases hb with hb | hb | hb
    · rw [hb]; exact .inl pw0
    · exact .inr (.inl hb)
    · exact .inr (.inr hb)
  · rw [if_neg hb]
    simp only [not_or, Bool.not_eq_false] at hb
    exact find_any k w h hi (hz.resolve_left hb.1) ⟨hb.2.1, hb.2.2, hr.1, hr.2⟩
theorem fnd_lt {z : Nat} {g : G} {k : V} (hi : Inv z (pl z) KOK g) (hz : Rt z) (hr : Rng k) {i n : Nat} (h : fnd z g k = (some i, n)) : i < z ∧ g.K i = k ∧ 0 < n := by
  unfold fnd at h
  by_cases hb : z = 0 ∨ fm k = false ∨ k.1 = 0
  · rw [if_pos hb] at h; cases h
  · rw [if_neg hb] at h
    simp only [not_or, Bool.not_eq_false] at hb
    have hz' := hz.resolve_left hb.1
    obtain ⟨q1, q2, q3⟩ := hi.find_some (fun k _ => pl_lt hz' k) (show KOK k from ⟨hb.2.1, hb.2.2, hr.1, hr.2⟩) h
    exact ⟨q2, q1, q3⟩

set_option maxHeartbeats 2000000 in
theorem get_any {b a z : Nat} {g : G} (k : V) (w : World) (h : Pt w b a z g) (hi : Inv z (pl z) KOK g) (hz : Rt z) (hr : Rng k) :
    Calls Try.prog 19 #[pp b, vl k.1 k.2.1 k.2.2] w fun e w' => e = .returned (.tuple #[vl (xAt g (fnd z g k).1).1 (xAt g (fnd z g k).1).2.1 (xAt g (fnd z g k).1).2.2, .int .i64 ((fnd z g k).2 : Nat)]) ∧ Below w.heap.size w w' := by
  obtain ⟨W0, hW0⟩ : ∃ W0, (w.alloc (vb k.1 k.2.1 k.2.2)).alloc (vb 0 0 ⟨#[]⟩) = W0 := ⟨_, rfl⟩
  have B0 : Below w.heap.size w W0 := by rw [← hW0]; exact b2 _ _ _
  have P0 : Pt W0 b a z g := h.below B0
  have CF := find_all k W0 P0 hi hz hr
  have HL : Hid (∀ i n, fnd z g k = (some i, n) → i < z) := fun i n hf => (fnd_lt hi hz hr hf).1
  have X2 : Bx W0 (w.heap.size + 1) nil := by
    have h0 := Bx.made (w.alloc (vb k.1 k.2.1 k.2.2)) nil
    have e : (w.alloc (vb k.1 k.2.1 k.2.2)).heap.size = w.heap.size + 1 := by simp
    rw [e] at h0
    rw [← hW0]; exact h0
  have F2 : ∀ j, W0.frozen? ⟨w.heap.size + 1, j, none⟩ = false := fun j => by
    have h0 := new_free (w.alloc (vb k.1 k.2.1 k.2.2)) #[.int .i64 0, .int .i64 0, .string ⟨#[]⟩] 32 j
    have e : (w.alloc (vb k.1 k.2.1 k.2.2)).heap.size = w.heap.size + 1 := by simp
    rw [e] at h0
    rw [← hW0]; exact h0
  have HP0 : Hid _ := P0
  have HB0 : Hid _ := B0
  have HX2 : Hid _ := X2
  have HF2 : Hid _ := F2
  clear h hi hz hr B0 P0 X2 F2
  unfold pp vl vb at *
  generalize hsz : w.heap.size = B at *
  have hsz2 : (w.alloc (.cells #[.int .i64 k.1, .int .i64 k.2.1, .string k.2.2] 32)).heap.size = B + 1 := by rw [← hsz]; simp
  have d0 : ((w.alloc (.cells #[.int .i64 k.1, .int .i64 k.2.1, .string k.2.2] 32)).alloc (.cells #[.int .i64 0, .int .i64 0, .string ⟨#[]⟩] 32)).cell? ⟨B, 0, none⟩ = some (.int .i64 k.1) := by rw [← hsz]; simp [go_sem]
  have d1 : ((w.alloc (.cells #[.int .i64 k.1, .int .i64 k.2.1, .string k.2.2] 32)).alloc (.cells #[.int .i64 0, .int .i64 0, .string ⟨#[]⟩] 32)).cell? ⟨B, 1, none⟩ = some (.int .i64 k.2.1) := by rw [← hsz]; simp [go_sem]
  have d2 : ((w.alloc (.cells #[.int .i64 k.1, .int .i64 k.2.1, .string k.2.2] 32)).alloc (.cells #[.int .i64 0, .int .i64 0, .string ⟨#[]⟩] 32)).cell? ⟨B, 2, none⟩ = some (.string k.2.2) := by rw [← hsz]; simp [go_sem]
  rw [hW0] at d0 d1 d2
  have HSZ : Hid (w.heap.size = B) := hsz
  cases hf : fnd z g k with
  | mk o n =>
    rw [hf] at CF
    go_enter Try.func19, Try.ntmps19
    go_wp2_with fail
    refine CF.mono ?_; rintro e W1 ⟨rfl, hb⟩
    have hb1 : Below B w W1 := bthen HB0.out (HSZ.out ▸ HB0.out.size) hb
    have P1 := HP0.out.below hb
    have Y2 := HX2.out.below hb
    have FF : ∀ j, W1.frozen? ⟨B + 1, j, none⟩ = false := fun j => by rw [hb.frozen (by exact HX2.out.lt)]; exact HF2.out j
    cases o with
    | some i =>
      have hiz := HL.out i n hf
      have CA := at_in i W1 P1 hiz
      unfold pp vn at CA
      have HB1 : Hid _ := hb1
      have HY2 : Hid _ := Y2
      have HFF : Hid _ := FF
      simp only [fi]
      clear hb1 hb CF Y2 FF P1
      go_wp2_with fail
      refine CA.mono ?_; rintro e W2 ⟨rfl, hb⟩
      have hb2 : Below B w W2 := bthen HB1.out (HSZ.out ▸ HB1.out.size) hb
      have Y3 := HY2.out.below hb
      have c0 := Y3.c0
      have c1 := Y3.c1
      have c2 := Y3.c2
      have ff : ∀ j, W2.frozen? ⟨B + 1, j, none⟩ = false := fun j => by rw [hb.frozen (by exact HY2.out.lt)]; exact HFF.out j
      have HB2 : Hid _ := hb2
      have f1 := field1 (g.K i) (g.X i) (link (pl z) g i)
      unfold vn vl at f1
      have S3 : Hid _ := Keep.bel (No := fun x => x < B) (((Keep.of (No := fun x => x < B) (HSZ.out ▸ hb2)).set (p := ⟨B + 1, 0, none⟩) (by simp) (.int .i64 (g.X i).1)).set (p := ⟨B + 1, 1, none⟩) (by simp) (.int .i64 (g.X i).2.1) |>.set (p := ⟨B + 1, 2, none⟩) (by simp) (.string (g.X i).2.2)) (Below.refl _ _)
      clear hb hb2 Y3
      go_wp2_with fail
      refine bodyPost_ret (v := .tuple #[.agg #[.int .i64 (g.X i).1, .int .i64 (g.X i).2.1, .string (g.X i).2.2], .int .i64 (n : Nat)]) (by simp [results, Try.results19, go_sem, c0, c1, c2]) rfl ⟨rfl, ?_⟩
      exact S3.out.below (HSZ.out ▸ Nat.le_refl _) (fun g hg => hg)
    | none =>
      have CA := at_out (-1) W1 P1.sizes (.inl (by omega))
      unfold pp vn at CA
      have HB1 : Hid _ := hb1
      have HY2 : Hid _ := Y2
      have HFF : Hid _ := FF
      simp only [fi]
      clear hb1 hb CF Y2 FF P1
      go_wp2_with fail
      refine CA.mono ?_; rintro e W2 ⟨rfl, hb⟩
      have hb2 : Below B w W2 := bthen HB1.out (HSZ.out ▸ HB1.out.size) hb
      have Y3 := HY2.out.below hb
      have c0 := Y3.c0
      have c1 := Y3.c1
      have c2 := Y3.c2
      have ff : ∀ j, W2.frozen? ⟨B + 1, j, none⟩ = false := fun j => by rw [hb.frozen (by exact HY2.out.lt)]; exact HFF.out j
      have HB2 : Hid _ := hb2
      have f1 := field1 nil nil 0
      unfold vn vl at f1
      have S3 : Hid _ := Keep.bel (No := fun x => x < B) (((Keep.of (No := fun x => x < B) (HSZ.out ▸ hb2)).set (p := ⟨B + 1, 0, none⟩) (by simp) (.int .i64 nil.1)).set (p := ⟨B + 1, 1, none⟩) (by simp) (.int .i64 nil.2.1) |>.set (p := ⟨B + 1, 2, none⟩) (by simp) (.string nil.2.2)) (Below.refl _ _)
      clear hb hb2 Y3
      go_wp2_with fail
      refine bodyPost_ret (v := .tuple #[.agg #[.int .i64 nil.1, .int .i64 nil.2.1, .string nil.2.2], .int .i64 (n : Nat)]) (by simp [results, Try.results19, go_sem, c0, c1, c2]) rfl ⟨rfl, ?_⟩
      exact S3.out.below (HSZ.out ▸ Nat.le_refl _) (fun g hg => hg)
end Go.Proofs.Ytbkgbojfjijalaa
