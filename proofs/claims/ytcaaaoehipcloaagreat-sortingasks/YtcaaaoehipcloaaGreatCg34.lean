/- The walk of the reference's Put: where it is refused, and where there are no nodes. -/
import Derived.Test.YtcaaaoehipcloaaGreatCg33
import Derived.Deep.AppendLies
namespace Go.Proofs.YtcaaaoehipcloaaGreat
open Go.RowKit

set_option maxRecDepth 100000 in
set_option maxHeartbeats 4000000 in
theorem rput_form {p : Value} (k v : V) (w : World) (hf : ¬ (fm k = true ∧ fm v = true)) :
    Calls Tryz.prog 34 #[p, vl k.1 k.2.1 k.2.2, vl v.1 v.2.1 v.2.2] w fun e w' => e = .returned (.tuple #[.int .i64 0, .int .i64 2]) ∧ Below w.heap.size w w' := by
  have C1 := rcheck_any k.1 k.2.1 k.2.2
  have C2 := rcheck_any v.1 v.2.1 v.2.2
  rw [chk_of] at C1 C2
  have B2 := fun o => bthen (b2 w (vb k.1 k.2.1 k.2.2) (vb v.1 v.2.1 v.2.2)) (by simp; omega) (b1 _ o)
  have B3 := fun o o' => bthen (B2 o) (by simp; omega) (b1 _ o')
  by_cases h1 : fm k = true
  · have h2 : fm v = false := by cases h0 : fm v; rfl; exact absurd ⟨h1, h0⟩ hf
    rw [if_pos h1] at C1
    rw [h2, if_neg (by simp)] at C2
    have B4 := B3 (vb k.1 k.2.1 k.2.2) (vb v.1 v.2.1 v.2.2)
    clear hf h1 h2 B2 B3
    unfold vl vb at *
    go_enter Tryz.func34, Tryz.ntmps34
    go_wp2_with fail
    refine (C1 _).mono ?_; rintro e w' ⟨rfl, rfl⟩
    go_wp2_with fail
    refine (C2 _).mono ?_; rintro e w' ⟨rfl, rfl⟩
    go_wp2_with fail
    go_ret2
    exact ⟨rfl, B4⟩
  · rw [if_neg h1] at C1
    have B4 := B2 (vb k.1 k.2.1 k.2.2)
    clear hf h1 B2 B3 C2
    unfold vl vb at *
    go_enter Tryz.func34, Tryz.ntmps34
    go_wp2_with fail
    refine (C1 _).mono ?_; rintro e w' ⟨rfl, rfl⟩
    go_wp2_with fail
    go_ret2
    exact ⟨rfl, B4⟩

set_option maxRecDepth 100000 in
set_option maxHeartbeats 4000000 in
theorem rput_key {p : Value} (k v : V) (w : World) (hf : fm k = true ∧ fm v = true) (hk : k.1 = 0) :
    Calls Tryz.prog 34 #[p, vl k.1 k.2.1 k.2.2, vl v.1 v.2.1 v.2.2] w fun e w' => e = .returned (.tuple #[.int .i64 0, .int .i64 9]) ∧ Below w.heap.size w w' := by
  have C1 := rcheck_any k.1 k.2.1 k.2.2
  have C2 := rcheck_any v.1 v.2.1 v.2.2
  rw [chk_of, if_pos hf.1] at C1
  rw [chk_of, if_pos hf.2] at C2
  have B4 := bthen (bthen (b2 w (vb k.1 k.2.1 k.2.2) (vb v.1 v.2.1 v.2.2)) (by simp; omega) (b1 _ (vb k.1 k.2.1 k.2.2))) (by simp; omega) (b1 _ (vb v.1 v.2.1 v.2.2))
  clear hf
  unfold vl vb at *
  rw [hk] at *
  go_enter Tryz.func34, Tryz.ntmps34
  go_wp2_with fail
  refine (C1 _).mono ?_; rintro e w' ⟨rfl, rfl⟩
  go_wp2_with fail
  refine (C2 _).mono ?_; rintro e w' ⟨rfl, rfl⟩
  go_wp2_with fail
  go_ret2
  exact ⟨rfl, B4⟩

set_option maxRecDepth 100000 in
set_option maxHeartbeats 4000000 in
theorem rput_zero {S ka va ca : Nat} {g : G} {cb : Nat → Nat} (k v : V) (w : World) (h : Rp w S ka va ca 0 g cb) (hi : Inv 0 (pl 0) KOK g) (hf : fm k = true ∧ fm v = true) (hk : k.1 ≠ 0) (hr : Rng k) :
    Calls Tryz.prog 34 #[pp S, vl k.1 k.2.1 k.2.2, vl v.1 v.2.1 v.2.2] w fun e w' => e = .returned (.tuple #[.int .i64 0, .int .i64 (if v.1 = 0 then 0 else 12)]) ∧ Below w.heap.size w w' := by
  have C1 := rcheck_any k.1 k.2.1 k.2.2
  have C2 := rcheck_any v.1 v.2.1 v.2.2
  rw [chk_of, if_pos hf.1] at C1
  rw [chk_of, if_pos hf.2] at C2
  have X1 := putW_k w k v
  have X2 := putW_v w k v
  have B0 := putW_below w k v
  obtain ⟨W0, hW0⟩ : ∃ W0, putW w k v = W0 := ⟨_, rfl⟩
  rw [hW0] at X1 X2 B0
  have P0 := h.below B0
  have CF := rfind_any k W0 P0 hi (.inl rfl) hr
  have e0 : fnd 0 g k = (none, 0) := by rw [fnd, if_pos (.inl rfl)]
  rw [e0] at CF
  have HX2 : Hid _ := X2
  have HB0 : Hid _ := B0
  have HP0 : Hid _ := P0
  have d0 := X1.c0
  have d1 := X1.c1
  have d2 := X1.c2
  obtain ⟨E, hE⟩ : ∃ E, (if v.1 = 0 then (0 : Int) else 12) = E := ⟨_, rfl⟩
  rw [hE]
  have HE : Hid _ := hE
  clear hf hr X1 X2 B0 P0 hE e0 h hi
  unfold putW at hW0
  unfold pp vl vb at *
  generalize hsz : w.heap.size = B at *
  have hsz2 : (w.alloc (.cells #[.int .i64 k.1, .int .i64 k.2.1, .string k.2.2] 34)).heap.size = B + 1 := by rw [← hsz]; simp
  have HSZ : Hid (w.heap.size = B) := hsz
  simp only [fi] at CF
  go_enter Tryz.func34, Tryz.ntmps34
  go_wp2_with fail
  refine (C1 _).mono ?_; rintro e w' ⟨rfl, rfl⟩
  go_wp2_with fail
  refine (C2 _).mono ?_; rintro e w' ⟨rfl, rfl⟩
  go_wp2_with fail
  refine CF.mono ?_; rintro e W1 ⟨rfl, hb⟩
  have hb1 : Below B w W1 := bthen HB0.out (HSZ.out ▸ HB0.out.size) hb
  have Y2 := HX2.out.below hb
  have P1 := HP0.out.below hb
  have q0 : W1.cell? ⟨S, 0, none⟩ = some (.slice (some ⟨ka, 0, none⟩) 0 0) := P1.s0
  have v0 := Y2.c0
  have v1 := Y2.c1
  have v2 := Y2.c2
  have HB1 : Hid _ := hb1
  clear hb hb1 Y2 CF P1
  by_cases hv : v.1 = 0
  · have e1 : Hid (E = 0) := by rw [← HE.out, if_pos hv]; rfl
    clear HE
    go_wp2_with fail
    go_ret2
    rw [e1.out]
    exact ⟨rfl, HB1.out⟩
  · have e1 : Hid (E = 12) := by rw [← HE.out, if_neg hv]; rfl
    clear HE
    go_wp2_with fail
    go_ret2
    rw [e1.out]
    exact ⟨rfl, HB1.out⟩
end Go.Proofs.YtcaaaoehipcloaaGreat
