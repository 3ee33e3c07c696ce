/- The reference's New as a part; its Put at all arguments. -/
import Derived.Test.YtbkgbojfjijalaaRw
namespace Go.Proofs.Ytbkgbojfjijalaa
open Go.RowKit

theorem made_vals {w : World} {b n : Nat} (h : w.heap[b]? = some (.cells (zeros3 n) 32)) : Rv w b n (fun _ => nil) := ⟨fun i hi j hj => by
  rw [cell_of_row h]
  have h1 : i * 3 + j < n * 3 := by omega
  have h2 : i * 3 < n * 3 := by omega
  have hm : (i * 3 + j) % 3 = j := by omega
  rcases lt3 hj with rfl | rfl | rfl <;> simp [zeros3, madeCells, Value.cells, vc, nil, h1, h2, hm]⟩
theorem made_chain {w : World} {b n : Nat} (h : w.heap[b]? = some (.cells (zeros1 n) 69)) {m : Nat} (hm : m < n) : w.cell? ⟨b, m, none⟩ = some (.slice none 0 0) := by
  rw [cell_of_row h]
  simp [zeros1, madeCells, Value.cells, hm, Nat.mod_one]
theorem free_of {w : World} {b : Nat} {cs : Array Value} {t : TypeId} (h : w.heap[b]? = some (.cells cs t)) (j : Nat) : w.frozen? ⟨b, j, none⟩ = false := by
  unfold World.frozen?
  rw [h]
  simp
theorem Rn.rs {w w' : World} {S ka va ca n : Nat} (h : Rn w w' S ka va ca n) : Rs w.heap.size w w' S ka va ca n (g0 n) (fun _ => 0) := by
  refine ⟨⟨by rw [cell_of_row h.s]; rfl, by rw [cell_of_row h.s]; rfl, by rw [cell_of_row h.s]; rfl, by rw [cell_of_row h.s]; rfl, made_vals h.k, made_vals h.v, fun m hm => ⟨_, made_chain h.c hm, .inl ⟨rfl, rfl⟩⟩, free_of h.s, free_of h.k, free_of h.v, free_of h.c, h.ne, fun m _ he => absurd rfl he, fun m m' _ _ he => absurd rfl he, h.lt⟩, fun x hx => ?_, Keep.of h.bel⟩
  rcases hx with q | q | q | q | ⟨m, _, he, _⟩
  · rw [q]; exact h.ge.1
  · rw [q]; exact h.ge.2.1
  · rw [q]; exact h.ge.2.2.1
  · rw [q]; exact h.ge.2.2.2
  · exact absurd rfl he
theorem rput_all {N S ka va ca z : Nat} {g : G} {cb : Nat → Nat} (k v : V) (w0 w : World) (h : Rs N w0 w S ka va ca z g cb) (hNw : N ≤ w.heap.size) (hi : Inv z (pl z) KOK g) (hz : Rt z) (hr : Rng k) :
    Calls Try.prog 18 #[pp S, vl k.1 k.2.1 k.2.2, vl v.1 v.2.1 v.2.2] w fun e w' => e = .returned (.tuple #[.int .i64 ((put z g k v).2.1 : Nat), .int .i64 (put z g k v).2.2]) ∧ ∃ cb', Rs N w w' S ka va ca z (put z g k v).1 cb' := by
  by_cases hf : fm k = true ∧ fm v = true
  · by_cases hk : k.1 = 0
    · have e : put z g k v = (g, 0, 9) := by rw [put, if_pos hf, if_pos hk]
      rw [e]
      exact (rput_key k v w hf hk).mono fun e w' ⟨h1, h2⟩ => ⟨h1, cb, h.rp.below h2, h.ge, Keep.of h2⟩
    · by_cases hz0 : z = 0
      · subst hz0
        have e : put 0 g k v = (g, 0, if v.1 = 0 then 0 else 12) := by rw [put, if_pos hf, if_neg hk, if_pos rfl]
        rw [e]
        exact (rput_zero k v w h.rp hi hf hk hr).mono fun e w' ⟨h1, h2⟩ => ⟨h1, cb, h.rp.below h2, h.ge, Keep.of h2⟩
      · exact rput_good k v w h.rp h.ge hNw hi (hz.resolve_left hz0) ⟨hf.1, hk, hr.1, hr.2⟩ hf.2
  · have e : put z g k v = (g, 0, 2) := by rw [put, if_neg hf]
    rw [e]
    exact (rput_form k v w hf).mono fun e w' ⟨h1, h2⟩ => ⟨h1, cb, h.rp.below h2, h.ge, Keep.of h2⟩
end Go.Proofs.Ytbkgbojfjijalaa
