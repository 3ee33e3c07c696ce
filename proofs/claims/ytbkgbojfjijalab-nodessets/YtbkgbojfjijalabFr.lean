/- The walk of NodesFree. -/
import Derived.Test.YtbkgbojfjijalabOo
namespace Go.Proofs.Ytbkgbojfjijalab
open Go.RowKit

theorem field320 (k n : Int) (s : ByteArray) (W : World) : (Instr.field 24 (vl k n s) 0).run Try.prog W = .ok (.int .i64 k) W := by kernel_rfl
theorem bad_and {z : Int} (h : rt z = false) (h0 : 0 ≤ z) (h1 : z ≤ 65536) : (bits .and .i64 z (z - 1) != 0) = true := by
  simp only [rt, Bool.or_eq_false_iff, decide_eq_false_iff_not] at h
  have hb : 1 ≤ z ∧ z ≤ 65536 := by omega
  rw [and_pw hb]
  have hn : z.toNat &&& (z.toNat - 1) ≠ 0 := fun e2 => by
    have : pw z = true := by simp only [pw, Bool.and_eq_true, decide_eq_true_eq]; exact ⟨hb, e2⟩
    rw [h.2] at this; cases this
  simpa using hn
/-- The part behind a call, with what has been kept. -/
structure St (B : Nat) (W w : World) (b a z : Nat) (g : G) : Prop where
  pt : Pt w b a z g
  inv : Inv z (pl z) KOK g
  keep : Keep (fun x => x < B) W w
theorem St.bel {B : Nat} {W w w' : World} {b a z : Nat} {g : G} (h : St B W w b a z g) (hb : Below w.heap.size w w') : St B W w' b a z g := ⟨h.pt.below hb, h.inv, h.keep.bel hb⟩
theorem St.put {B : Nat} {W w w' : World} {b a z : Nat} {g : G} (h : St B W w b a z g) (hz : Rt z) {k v : V} (hr : Rng k) (hp : Pt w' b a z (Proofs.Ytbkgbojfjijalab.put z g k v).1) (hk : Keep (fun x => x ≠ a ∧ x ≠ b) w w') (hB : B ≤ a ∧ B ≤ b) : St B W w' b a z (Proofs.Ytbkgbojfjijalab.put z g k v).1 :=
  ⟨hp, (put_inv k v h.inv hz hr).1, h.keep.trans (hk.sub fun x hx => by show x ≠ a ∧ x ≠ b; have : x < B := hx; omega)⟩
theorem St.below {B : Nat} {W w : World} {b a z : Nat} {g : G} (h : St B W w b a z g) (hB : B ≤ W.heap.size) : Below B W w := h.keep.below hB (fun _ hx => hx)
/-- Behind begin. -/
theorem St.start {W w0 w1 w2 : World} {n S ka va ca : Nat} (hf : Below W.heap.size W w0) (h1 : w1 = newW w0 n) (h2 : Rn w1 w2 S ka va ca n) : St W.heap.size W w2 (w0.heap.size + 1) w0.heap.size n (g0 n) := by
  subst h1
  exact ⟨(newW_pt w0 n).below h2.bel, g0_inv n _, ((Keep.of hf).bel (newW_below w0 n)).bel h2.bel⟩
/-- What is read of an operation. -/
theorem Ops.at {N : Nat} {w : World} {v : Value} {L : Nat} {Q : Nat → Int × V × V} (h : Ops N w v L Q) {i : Nat} (hi : i < L) : ∃ b off cap, v = .slice (some ⟨b, off, none⟩) L cap ∧ b < N ∧ w.cell? ⟨b, off + i * 7, none⟩ = some (.int .i64 (Q i).1) ∧
    w.cell? ⟨b, off + i * 7 + 1, none⟩ = some (.int .i64 (Q i).2.1.1) ∧ w.cell? ⟨b, off + i * 7 + 2, none⟩ = some (.int .i64 (Q i).2.1.2.1) ∧ w.cell? ⟨b, off + i * 7 + 3, none⟩ = some (.string (Q i).2.1.2.2) ∧
    w.cell? ⟨b, off + i * 7 + 4, none⟩ = some (.int .i64 (Q i).2.2.1) ∧ w.cell? ⟨b, off + i * 7 + 5, none⟩ = some (.int .i64 (Q i).2.2.2.1) ∧ w.cell? ⟨b, off + i * 7 + 6, none⟩ = some (.string (Q i).2.2.2.2) := by
  obtain ⟨a, cap, rfl, _, h⟩ := h
  obtain ⟨b, off, rfl, hg, hx⟩ := h (by omega)
  exact ⟨b, off, cap, rfl, hg, hx i hi 0 (by omega), hx i hi 1 (by omega), hx i hi 2 (by omega), hx i hi 3 (by omega), hx i hi 4 (by omega), hx i hi 5 (by omega), hx i hi 6 (by omega)⟩

end Go.Proofs.Ytbkgbojfjijalab
