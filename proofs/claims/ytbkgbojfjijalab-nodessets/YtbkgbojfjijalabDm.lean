/- A dump in memory; the walk of d1. -/
import Derived.Test.YtbkgbojfjijalabFr
import Derived.Test.YtbkgbojfjijalabGs
namespace Go.Proofs.Ytbkgbojfjijalab
open Go.RowKit

/-- A dump: the nodes in a block of their own. -/
structure Dm (w : World) (D n : Nat) (g : G) : Prop where
  row : Rc w D n (nf (pl n) g)
  lt : D < w.heap.size
theorem Dm.below {w w' : World} {D n : Nat} {g : G} (h : Dm w D n g) (k : Below w.heap.size w w') : Dm w' D n g := ⟨h.row.block (k.block D h.lt), Nat.lt_of_lt_of_le h.lt k.size⟩
theorem Dm.k {w : World} {D n : Nat} {g : G} (h : Dm w D n g) {i : Nat} (hi : i < n) : w.cell? ⟨D, i * 7, none⟩ = some (.int .i64 (g.K i).1) ∧ w.cell? ⟨D, i * 7 + 1, none⟩ = some (.int .i64 (g.K i).2.1) ∧ w.cell? ⟨D, i * 7 + 2, none⟩ = some (.string (g.K i).2.2) :=
  ⟨h.row.c i hi 0 (by omega), h.row.c i hi 1 (by omega), h.row.c i hi 2 (by omega)⟩
theorem Dm.x {w : World} {D n : Nat} {g : G} (h : Dm w D n g) {i : Nat} (hi : i < n) : w.cell? ⟨D, i * 7 + 3, none⟩ = some (.int .i64 (g.X i).1) ∧ w.cell? ⟨D, i * 7 + 4, none⟩ = some (.int .i64 (g.X i).2.1) ∧ w.cell? ⟨D, i * 7 + 5, none⟩ = some (.string (g.X i).2.2) :=
  ⟨h.row.c i hi 3 (by omega), h.row.c i hi 4 (by omega), h.row.c i hi 5 (by omega)⟩
theorem Dm.l {w : World} {D n : Nat} {g : G} (h : Dm w D n g) {i : Nat} (hi : i < n) : w.cell? ⟨D, i * 7 + 6, none⟩ = some (.int .i64 (link (pl n) g i)) := h.row.c i hi 6 (by omega)

set_option maxHeartbeats 1000000 in
theorem d1_any {b a z : Nat} {g : G} (w : World) (h : Pt w b a z g) : Calls Try.prog 13 #[pp b] w fun e w' => e = .returned (.int .i64 (z : Nat)) ∧ w' = w := by
  have C := size_any w h
  clear h
  unfold pp at *
  go_enter Try.func13, Try.ntmps13
  go_wp2_with (go_at_call 23; refine C.mono ?_; rintro e w' ⟨rfl, rfl⟩)
  go_ret; exact ⟨rfl, rfl⟩
theorem Inv.rds_le {z : Nat} {pl : V → Nat} {ok : V → Prop} {g : G} (h : Inv z pl ok g) (hpl : ∀ k, ok k → pl k < z) {j : Nat} (hj : j < z) (hne : g.K j ≠ nil) : ∃ r, find pl g (g.K j) = (some j, r) ∧ rds pl g j = r ∧ 1 ≤ r ∧ r ≤ z := by
  obtain ⟨p, q, hc, hp, hf⟩ := h.find_held hpl hj hne
  refine ⟨p.length + 1, hf, by rw [rds, if_neg hne, hf], by omega, ?_⟩
  have hm := hpl _ ((h.key j hj).resolve_left hne)
  have h0 := nodup_len (h.nd _ hm) (fun x hx => (h.cok _ hm x hx).1)
  rw [hc] at h0
  simp at h0
  omega
theorem tri_le {n : Nat} (h : n ≤ 512) : tri n ≤ 131328 := by
  have h1 := tri_two n
  have h2 : n * (n + 1) ≤ 512 * 513 := Nat.mul_le_mul h (by omega)
  omega
end Go.Proofs.Ytbkgbojfjijalab
