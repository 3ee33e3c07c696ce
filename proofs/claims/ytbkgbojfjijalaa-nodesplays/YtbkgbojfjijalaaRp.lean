/- The reference's part in memory; the walks of its key, Find and Get. -/
import Derived.Test.YtbkgbojfjijalaaLv
namespace Go.Proofs.Ytbkgbojfjijalaa
open Go.RowKit

/-- A row of values in block b. -/
structure Rv (w : World) (b z : Nat) (F : Nat → V) : Prop where
  c : ∀ i, i < z → ∀ j, j < 3 → w.cell? ⟨b, i * 3 + j, none⟩ = some (vc (F i) j)
theorem Rv.block {w w' : World} {b z : Nat} {F : Nat → V} (h : Rv w b z F) (hb : w'.heap[b]? = w.heap[b]?) : Rv w' b z F := ⟨fun i hi j hj => by rw [World.cell?_of_block (w := w) hb]; exact h.c i hi j hj⟩
/-- A chain: the list l in block b, or none. -/
def Rl (w : World) (v : Value) (b : Nat) (l : List Nat) : Prop := (l = [] ∧ v = .slice none 0 0) ∨ ∃ cap, l ≠ [] ∧ v = .slice (some ⟨b, 0, none⟩) l.length cap ∧ b < w.heap.size ∧ (∀ j, w.frozen? ⟨b, j, none⟩ = false) ∧ ∀ t, t < l.length → w.cell? ⟨b, t, none⟩ = some (.int .i64 ((l.getD t 0 : Nat) : Int))
theorem Rl.block {w w' : World} {v : Value} {b : Nat} {l : List Nat} (h : Rl w v b l) (hs : w.heap.size ≤ w'.heap.size) (hb : b < w.heap.size → w'.heap[b]? = w.heap[b]?) : Rl w' v b l := by
  rcases h with h | ⟨cap, h0, h1, h2, h3, h4⟩
  · exact .inl h
  · exact .inr ⟨cap, h0, h1, by omega, fun j => by rw [World.frozen?_of_block (w := w) (hb h2)]; exact h3 j, fun t ht => by rw [World.cell?_of_block (w := w) (hb h2)]; exact h4 t ht⟩
theorem Rl.form {w : World} {v : Value} {b : Nat} {l : List Nat} (h : Rl w v b l) : ∃ a c, v = .slice a l.length c := by
  rcases h with ⟨h1, h2⟩ | ⟨cap, _, h1, _⟩
  · exact ⟨none, 0, by rw [h2, h1]; rfl⟩
  · exact ⟨_, _, h1⟩
/-- The reference's part: the struct in S, keys in ka, values in va, chains in ca; chain m in cb m. -/
structure Rp (w : World) (S ka va ca z : Nat) (g : G) (cb : Nat → Nat) : Prop where
  s0 : w.cell? ⟨S, 0, none⟩ = some (.slice (some ⟨ka, 0, none⟩) z z)
  s1 : w.cell? ⟨S, 1, none⟩ = some (.slice (some ⟨va, 0, none⟩) z z)
  s2 : w.cell? ⟨S, 2, none⟩ = some (.slice (some ⟨ca, 0, none⟩) z z)
  s3 : w.cell? ⟨S, 3, none⟩ = some (.int .i64 (g.f : Nat))
  k : Rv w ka z g.K
  v : Rv w va z g.X
  c : ∀ m, m < z → ∃ u, w.cell? ⟨ca, m, none⟩ = some u ∧ Rl w u (cb m) (g.C m)
  fS : ∀ j, w.frozen? ⟨S, j, none⟩ = false
  fk : ∀ j, w.frozen? ⟨ka, j, none⟩ = false
  fv : ∀ j, w.frozen? ⟨va, j, none⟩ = false
  fc : ∀ j, w.frozen? ⟨ca, j, none⟩ = false
  ne : ka ≠ va ∧ ka ≠ ca ∧ va ≠ ca ∧ S ≠ ka ∧ S ≠ va ∧ S ≠ ca
  nb : ∀ m, m < z → g.C m ≠ [] → cb m ≠ S ∧ cb m ≠ ka ∧ cb m ≠ va ∧ cb m ≠ ca
  inj : ∀ m m', m < z → m' < z → g.C m ≠ [] → g.C m' ≠ [] → cb m = cb m' → m = m'
  lt : S < w.heap.size ∧ ka < w.heap.size ∧ va < w.heap.size ∧ ca < w.heap.size
/-- The blocks that are its own. -/
def Rp.Own (S ka va ca z : Nat) (g : G) (cb : Nat → Nat) (x : Nat) : Prop := x = S ∨ x = ka ∨ x = va ∨ x = ca ∨ ∃ m, m < z ∧ g.C m ≠ [] ∧ cb m = x
theorem Rp.kept {No : Nat → Prop} {w w' : World} {S ka va ca z : Nat} {g : G} {cb : Nat → Nat} (h : Rp w S ka va ca z g cb) (hk : Keep No w w') (hn : ∀ x, Rp.Own S ka va ca z g cb x → No x) : Rp w' S ka va ca z g cb := by
  have bS := hk.block S h.lt.1 (hn S (.inl rfl))
  have bk := hk.block ka h.lt.2.1 (hn ka (.inr (.inl rfl)))
  have bv := hk.block va h.lt.2.2.1 (hn va (.inr (.inr (.inl rfl))))
  have bc := hk.block ca h.lt.2.2.2 (hn ca (.inr (.inr (.inr (.inl rfl)))))
  refine ⟨by rw [World.cell?_of_block (w := w) bS]; exact h.s0, by rw [World.cell?_of_block (w := w) bS]; exact h.s1, by rw [World.cell?_of_block (w := w) bS]; exact h.s2, by rw [World.cell?_of_block (w := w) bS]; exact h.s3, h.k.block bk, h.v.block bv, fun m hm => ?_,
    fun j => by rw [World.frozen?_of_block (w := w) bS]; exact h.fS j, fun j => by rw [World.frozen?_of_block (w := w) bk]; exact h.fk j, fun j => by rw [World.frozen?_of_block (w := w) bv]; exact h.fv j, fun j => by rw [World.frozen?_of_block (w := w) bc]; exact h.fc j, h.ne, h.nb, h.inj, ?_⟩
  · obtain ⟨u, h1, h2⟩ := h.c m hm
    refine ⟨u, by rw [World.cell?_of_block (w := w) bc]; exact h1, ?_⟩
    by_cases he : g.C m = []
    · rcases h2 with q | ⟨cap, q0, _⟩
      · exact .inl q
      · exact absurd he q0
    · exact h2.block hk.size (fun hlt => hk.block _ hlt (hn _ (.inr (.inr (.inr (.inr ⟨m, hm, he, rfl⟩))))))
  · have := h.lt; have := hk.size; omega
theorem Rp.below {w w' : World} {S ka va ca z : Nat} {g : G} {cb : Nat → Nat} (h : Rp w S ka va ca z g cb) (k : Below w.heap.size w w') : Rp w' S ka va ca z g cb := h.kept (No := fun _ => True) (Keep.of k) (fun _ _ => trivial)
theorem Rv.at {w : World} {b z : Nat} {F : Nat → V} (h : Rv w b z F) {i : Nat} (hi : i < z) : w.cell? ⟨b, i * 3, none⟩ = some (.int .i64 (F i).1) ∧ w.cell? ⟨b, i * 3 + 1, none⟩ = some (.int .i64 (F i).2.1) ∧ w.cell? ⟨b, i * 3 + 2, none⟩ = some (.string (F i).2.2) :=
  ⟨h.c i hi 0 (by omega), h.c i hi 1 (by omega), h.c i hi 2 (by omega)⟩

set_option maxHeartbeats 2000000 in
theorem rkey_any {S ka va ca z : Nat} {g : G} {cb : Nat → Nat} (k : V) (w : World) (h : Rp w S ka va ca z g cb) : Calls Try.prog 36 #[pp S, vl k.1 k.2.1 k.2.2] w fun e w' => e = .returned (.bool (decide (z ≠ 0) && (fm k && decide (k.1 ≠ 0)))) ∧ Below w.heap.size w w' := by
  have CK := rcheck_any k.1 k.2.1 k.2.2
  rw [chk_of] at CK
  have c0 := h.s0
  have hS := h.lt.1
  have HB1 : Hid (Below w.heap.size w (w.alloc (vb k.1 k.2.1 k.2.2))) := b1 _ _
  have HB2 : Hid (Below w.heap.size w ((w.alloc (vb k.1 k.2.1 k.2.2)).alloc (vb k.1 k.2.1 k.2.2))) := b2 _ _ _
  clear h
  unfold pp vl vb at *
  by_cases hz : z = 0
  · subst hz
    have e : (decide ((0 : Nat) ≠ 0) && (fm k && decide (k.1 ≠ 0))) = false := rfl
    rw [e]
    clear e CK
    have c0' : w.cell? ⟨S, 0, none⟩ = some (.slice (some ⟨ka, 0, none⟩) 0 0) := c0
    go_enter Try.func36, Try.ntmps36
    go_wp2_with fail
    go_ret
    exact ⟨rfl, HB1.out⟩
  · have hz' : (0 : Int) < (z : Int) := by omega
    rw [decide_eq_true (show z ≠ 0 from hz), Bool.true_and]
    cases hf : fm k
    · rw [hf, if_neg (by simp)] at CK
      rw [Bool.false_and]
      go_enter Try.func36, Try.ntmps36
      go_wp2_with fail
      refine (CK _).mono ?_; rintro e w' ⟨rfl, rfl⟩
      go_wp2_with fail
      go_ret
      exact ⟨rfl, HB2.out⟩
    · rw [hf, if_pos rfl] at CK
      rw [Bool.true_and]
      clear hf
      go_enter Try.func36, Try.ntmps36
      go_wp2_with fail
      refine (CK _).mono ?_; rintro e w' ⟨rfl, rfl⟩
      go_wp2_with fail
      go_ret
      exact ⟨ret_bool (by rw [Bool.eq_iff_iff]; simp), HB2.out⟩
end Go.Proofs.Ytbkgbojfjijalaa
