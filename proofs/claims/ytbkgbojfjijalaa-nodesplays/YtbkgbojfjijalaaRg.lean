/- The walk of the reference's Get. -/
import Derived.Test.YtbkgbojfjijalaaRx
namespace Go.Proofs.Ytbkgbojfjijalaa
open Go.RowKit

set_option maxHeartbeats 2000000 in
theorem rget_any {S ka va ca z : Nat} {g : G} {cb : Nat → Nat} (k : V) (w : World) (h : Rp w S ka va ca z g cb) (hi : Inv z (pl z) KOK g) (hz : Rt z) (hr : Rng k) :
    Calls Try.prog 20 #[pp S, vl k.1 k.2.1 k.2.2] w fun e w' => e = .returned (.tuple #[vl (xAt g (fnd z g k).1).1 (xAt g (fnd z g k).1).2.1 (xAt g (fnd z g k).1).2.2, .int .i64 ((fnd z g k).2 : Nat)]) ∧ Below w.heap.size w w' := by
  obtain ⟨W0, hW0⟩ : ∃ W0, (w.alloc (vb k.1 k.2.1 k.2.2)).alloc (vb 0 0 ⟨#[]⟩) = W0 := ⟨_, rfl⟩
  have B0 : Below w.heap.size w W0 := by rw [← hW0]; exact b2 _ _ _
  have P0 := h.below B0
  have CF := rfind_any k W0 P0 hi hz hr
  have HL : Hid (∀ i n, fnd z g k = (some i, n) → i < z) := fun i n hf => (fnd_lt hi hz hr hf).1
  have X2 : Bx W0 (w.heap.size + 1) nil := by
    have h0 := Bx.made (w.alloc (vb k.1 k.2.1 k.2.2)) nil
    have e : (w.alloc (vb k.1 k.2.1 k.2.2)).heap.size = w.heap.size + 1 := by simp
    rw [e] at h0
    rw [← hW0]; exact h0
  have F2 : ∀ j, W0.frozen? ⟨w.heap.size + 1, j, none⟩ = false := fun j => by
    have h0 := new_free (w.alloc (vb k.1 k.2.1 k.2.2)) #[.int .i64 0, .int .i64 0, .string ⟨#[]⟩] 32 j
    have e : (w.alloc (vb k.1 k.2.1 k.2.2)).heap.size = w.heap.size + 1 := by simp
    rw [e] at h0
    rw [← hW0]; exact h0
  have HP0 : Hid _ := P0
  have HB0 : Hid _ := B0
  have HX2 : Hid _ := X2
  have HF2 : Hid _ := F2
  clear h hi hz hr B0 P0 X2 F2
  unfold pp vl vb at *
  generalize hsz : w.heap.size = B at *
  have hsz2 : (w.alloc (.cells #[.int .i64 k.1, .int .i64 k.2.1, .string k.2.2] 32)).heap.size = B + 1 := by rw [← hsz]; simp
  have d0 : ((w.alloc (.cells #[.int .i64 k.1, .int .i64 k.2.1, .string k.2.2] 32)).alloc (.cells #[.int .i64 0, .int .i64 0, .string ⟨#[]⟩] 32)).cell? ⟨B, 0, none⟩ = some (.int .i64 k.1) := by rw [← hsz]; simp [go_sem]
  have d1 : ((w.alloc (.cells #[.int .i64 k.1, .int .i64 k.2.1, .string k.2.2] 32)).alloc (.cells #[.int .i64 0, .int .i64 0, .string ⟨#[]⟩] 32)).cell? ⟨B, 1, none⟩ = some (.int .i64 k.2.1) := by rw [← hsz]; simp [go_sem]
  have d2 : ((w.alloc (.cells #[.int .i64 k.1, .int .i64 k.2.1, .string k.2.2] 32)).alloc (.cells #[.int .i64 0, .int .i64 0, .string ⟨#[]⟩] 32)).cell? ⟨B, 2, none⟩ = some (.string k.2.2) := by rw [← hsz]; simp [go_sem]
  rw [hW0] at d0 d1 d2
  have HSZ : Hid (w.heap.size = B) := hsz
  cases hf : fnd z g k with
  | mk o n =>
    rw [hf] at CF
    go_enter Try.func20, Try.ntmps20
    go_wp2_with fail
    refine CF.mono ?_; rintro e W1 ⟨rfl, hb⟩
    have hb1 : Below B w W1 := bthen HB0.out (HSZ.out ▸ HB0.out.size) hb
    have P1 := HP0.out.below hb
    have Y2 := HX2.out.below hb
    have ff : ∀ j, W1.frozen? ⟨B + 1, j, none⟩ = false := fun j => by rw [hb.frozen (by exact HX2.out.lt)]; exact HF2.out j
    have c0 := Y2.c0
    have c1 := Y2.c1
    have c2 := Y2.c2
    cases o with
    | some i =>
      have hiz := HL.out i n hf
      have hiz' : (i : Int) < (z : Int) := by omega
      have s1 := P1.s1
      obtain ⟨x0, x1, x2⟩ := P1.v.at hiz
      have S3 : Hid _ := Keep.bel (No := fun x => x < B) (((Keep.of (No := fun x => x < B) (HSZ.out ▸ hb1)).set (p := ⟨B + 1, 0, none⟩) (by simp) (.int .i64 (g.X i).1)).set (p := ⟨B + 1, 1, none⟩) (by simp) (.int .i64 (g.X i).2.1) |>.set (p := ⟨B + 1, 2, none⟩) (by simp) (.string (g.X i).2.2)) (Below.refl _ _)
      simp only [fi]
      clear hb1 hb CF Y2 P1
      go_wp2_with fail
      refine bodyPost_ret (v := .tuple #[.agg #[.int .i64 (g.X i).1, .int .i64 (g.X i).2.1, .string (g.X i).2.2], .int .i64 (n : Nat)]) (by simp [results, Try.results20, go_sem, c0, c1, c2]) rfl ⟨rfl, ?_⟩
      exact S3.out.below (HSZ.out ▸ Nat.le_refl _) (fun g hg => hg)
    | none =>
      have S3 : Hid _ := Keep.bel (No := fun x => x < B) (((Keep.of (No := fun x => x < B) (HSZ.out ▸ hb1)).set (p := ⟨B + 1, 0, none⟩) (by simp) (.int .i64 nil.1)).set (p := ⟨B + 1, 1, none⟩) (by simp) (.int .i64 nil.2.1) |>.set (p := ⟨B + 1, 2, none⟩) (by simp) (.string nil.2.2)) (Below.refl _ _)
      simp only [fi]
      clear hb1 hb CF Y2 P1
      go_wp2_with fail
      refine bodyPost_ret (v := .tuple #[.agg #[.int .i64 nil.1, .int .i64 nil.2.1, .string nil.2.2], .int .i64 (n : Nat)]) (by simp [results, Try.results20, go_sem, c0, c1, c2, nil]) rfl ⟨rfl, ?_⟩
      exact S3.out.below (HSZ.out ▸ Nat.le_refl _) (fun g hg => hg)
end Go.Proofs.Ytbkgbojfjijalaa
