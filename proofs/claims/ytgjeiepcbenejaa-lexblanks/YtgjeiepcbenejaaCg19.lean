/- The walk of the reference's Scan. -/
import Derived.Test.YtgjeiepcbenejaaCg18
import Derived.Test.YtgjeiepcbenejaaCg06
namespace Go.Proofs.Ytgjeiepcbenejaa
open Go.RowKit

/-- Up to a newline, byte by byte. -/
theorem spn_nl (l : List UInt8) : spn (fun r => decide (r ≠ 10)) l = (l.takeWhile fun c => decide (c.toNat ≠ 10)).length := by
  match l with
  | [] => rw [spn_nil]; rfl
  | c :: t =>
    by_cases h10 : c.toNat = 10
    · have := asc c t (by omega)
      rw [spn_no _ _ (by simp) (by rw [this.1]; simp [h10])]
      simp [h10]
    · have hr : rnL (c :: t) ≠ 10 := fun e => h10 (by have := rn_lt c t (by omega); omega)
      have hw := wdL_pos (c :: t)
      have hl := wdL_le (c :: t) (by simp)
      rw [spn_yes _ _ (by simp) (by simpa using hr)]
      have hall : ∀ x ∈ (c :: t).take (wdL (c :: t)), (decide (x.toNat ≠ 10)) = true := fun x hx => by
        rcases Nat.lt_or_ge c.toNat 128 with h1 | h1
        · have h2 := (asc c t h1).2
          rw [h2] at hx
          simp at hx; subst hx; simpa using h10
        · have := hi_bytes c t h1 x hx
          simp; omega
      have hsp : c :: t = (c :: t).take (wdL (c :: t)) ++ (c :: t).drop (wdL (c :: t)) := (List.take_append_drop _ _).symm
      have ih := spn_nl ((c :: t).drop (wdL (c :: t)))
      rw [ih]
      conv => rhs; rw [hsp]
      rw [List.takeWhile_append_of_pos hall, List.length_append, List.length_take]
      omega
termination_by l.length
decreasing_by simp only [List.length_drop, List.length_cons] at *; omega

theorem Try.info48 : (Try.prog.info? 48).map (fun i => (i.zero, i.size, i.bytes)) = some (some (.agg #[.int .i64 0, .string ⟨#[]⟩, .int .i64 0, .int .i64 0]), 4, 40) := by kernel_rfl

set_option maxRecDepth 20000 in
set_option maxHeartbeats 2000000 in
theorem rScan_big (s : ByteArray) (w : World) (hb : 20000 < s.size) (hs : s.size ≤ 9223372036854775807) :
    Calls Try.prog 10 #[.string s] w fun e W' => e = .returned (.tuple #[.slice none 0 0, .agg #[.int .i64 14, .int .i64 (-1)]]) ∧ Below w.heap.size w W' := by
  go_enter Try.func10, Try.ntmps10
  go_wp2
  exact bodyPost_ret (v := .tuple #[.slice none 0 0, .agg #[.int .i64 14, .int .i64 (-1)]]) (by simp [results, Try.results10, go_sem]) rfl ⟨rfl, (Below.refl _ w).alloc (Nat.le_refl _) _⟩

/-- The answer of a going through. -/
def RV (R : Res) (w : World) (e : Ending) (W' : World) : Prop :=
  ∃ v ts c p, e = .returned (.tuple #[v, .agg #[.int .i64 c, .int .i64 p]]) ∧ (ts, c, p) = (match R with | .ok ts => (ts, 0, 0) | .bad c p => ([], c, (p : Int))) ∧ W'.ownsRow w.heap.size 48 4 v ts.length (cellsT ts) ∧ Below w.heap.size w W'
theorem RV.bad {R : Res} {c : Int} {p : Nat} (h : R = .bad c p) {w W' : World} {v : Value} (hv : v = .tuple #[.slice none 0 0, .agg #[.int .i64 c, .int .i64 p]]) (hB : Below w.heap.size w W') : RV R w (.returned v) W' := by
  subst h hv
  exact ⟨_, [], c, p, rfl, rfl, World.ownsRow_nil _ _ _ _, hB⟩

end Go.Proofs.Ytgjeiepcbenejaa
