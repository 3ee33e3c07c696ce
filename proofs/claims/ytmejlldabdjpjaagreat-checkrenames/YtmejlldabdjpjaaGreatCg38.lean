/- The walk of SameVals, where both lists hold the same. -/
import Derived.Test.YtmejlldabdjpjaaGreatCg37
import Derived.Test.YtmejlldabdjpjaaGreatCg30
namespace Go.Proofs.YtmejlldabdjpjaaGreat
open Go.RowKit

theorem stp_wd (l : List UInt8) (k : Int) (t : List UInt8) (v : Int) (n : Nat) (h : stp l = .tok k t v n) (hk : k = 2) : wordB t = true := by
  unfold stp at h
  split at h
  · cases h
  split at h
  · cases h
  split at h
  · split at h
    · cases h
    · injection h with h1 h2 h3 h4
      by_cases hw : wordB (l.take (spn inNm l)) = true
      · rw [← h2]; exact hw
      · rw [if_neg hw] at h1; omega
  split at h
  · split at h
    · cases h
    · injection h with h1; omega
  split at h
  · split at h
    · injection h with h1; omega
    · cases h
  split at h
  · cases h
  · injection h with h1; omega
theorem scn_wd : ∀ (m : Nat) (l : List UInt8) (p : Nat) (acc ts : List Tok), l.length ≤ m → (∀ x ∈ acc, x.k = 2 → wordB x.t = true) → scn l p acc = .ok ts → ∀ x ∈ ts, x.k = 2 → wordB x.t = true := by
  intro m
  induction m with
  | zero =>
    intro l p acc ts hl ha h
    have : l = [] := List.length_eq_zero_iff.1 (by omega)
    subst this
    rw [scn] at h
    injection h with h
    subst h
    intro x hx
    rcases List.mem_append.1 hx with hx | hx
    · exact ha x hx
    · have := List.mem_singleton.1 hx; subst this; intro e; exact absurd (show (6 : Int) = 2 from e) (by decide)
  | succ m ih =>
    intro l p acc ts hl ha h
    cases l with
    | nil =>
      rw [scn] at h
      injection h with h
      subst h
      intro x hx
      rcases List.mem_append.1 hx with hx | hx
      · exact ha x hx
      · have := List.mem_singleton.1 hx; subst this; intro e; exact absurd (show (6 : Int) = 2 from e) (by decide)
    | cons c u =>
      have hu : ∀ n, (u.drop n).length ≤ m := fun n => by simp at hl ⊢; omega
      rw [scn] at h
      split at h
      · exact ih _ _ _ _ (hu _) ha h
      · next k t v n hs =>
        refine ih _ _ _ _ (hu _) (fun x hx => ?_) h
        rcases List.mem_append.1 hx with hx | hx
        · exact ha x hx
        · have := List.mem_singleton.1 hx; subst this; exact fun e => stp_wd _ _ _ _ _ hs e
      · cases h
theorem scT_wd (l : List UInt8) : ∀ x ∈ (scT l).1, x.k = 2 → wordB x.t = true := by
  unfold scT
  split
  · intro x hx; cases hx
  · split
    · next ts h => exact scn_wd _ _ _ _ _ (Nat.le_refl _) (fun x hx => by cases hx) h
    · intro x hx; cases hx
theorem Tg.of (l : List UInt8) (hz : ∀ t ∈ (scT l).1, t.k = 1 → t.t ≠ zzz) (hf : fldB (scT l).1 = false) : Tg (scT l).1 := by
  refine ⟨hz, fun t ht => ?_⟩
  have h1 : fldT t = false := by
    cases e : fldT t
    · rfl
    · have : fldB (scT l).1 = true := List.any_eq_true.2 ⟨t, ht, e⟩
      rw [hf] at this; cases this
  have key : ∀ c, (c = 21 ∨ c = 22) → cls t ≠ c := fun c hc e => by
    have hk : t.k = 2 ∨ t.k = 5 := by
      by_cases hk : t.k = 2 ∨ t.k = 5
      · exact hk
      · unfold cls at e
        rw [if_neg hk] at e
        repeat' split at e
        all_goals omega
    have e' : code t.t = c := by unfold cls at e; rw [if_pos hk] at e; exact e
    have hw := (code_inv t.t c e' (by omega)).1
    have ht2 : t.t = [46] ∨ t.t = [123] := by
      rcases hc with rfl | rfl
      · exact .inl hw.symm
      · exact .inr hw.symm
    rcases hk with hk | hk
    · have := scT_wd l t ht hk
      rcases ht2 with h | h <;> rw [h] at this <;> exact absurd this (by decide)
    · unfold fldT at h1
      rcases ht2 with h | h <;> rw [hk, h] at h1 <;> exact absurd h1 (by decide)
  exact ⟨key 21 (.inl rfl), key 22 (.inr rfl)⟩
theorem neqV (k n : Int) (s : Tx) (W : World) : (binOp .neq 54 (.agg #[.int .i64 k, .int .i64 n, .string ⟨s.toArray⟩]) (.agg #[.int .i64 k, .int .i64 n, .string ⟨s.toArray⟩])).run Tryz.prog W = .ok (.bool false) W := by
  rw [run_neq_struct, run_equalIn_agg W _ _ _ _ under54 stood54]
  simp [go_sem]
theorem val_row {w : World} {v : Value} {l : List Vl} (h : w.ownsRow 0 54 3 v l.length (vcl l)) : ∃ a c, v = .slice a l.length c ∧ l.length ≤ 9223372036854775807 ∧ ∀ i x, l[i]? = some x → ∃ g, a = some ⟨g, 0, none⟩ ∧ g < w.heap.size ∧
    w.cell? ⟨g, i * 3, none⟩ = some (.int .i64 x.1) ∧ w.cell? ⟨g, i * 3 + 1, none⟩ = some (.int .i64 x.2.1) ∧ w.cell? ⟨g, i * 3 + 2, none⟩ = some (.string ⟨x.2.2.toArray⟩) := by
  by_cases h0 : 0 < l.length
  · obtain ⟨g, c, e, hg, hc⟩ := own_one h h0
    refine ⟨_, c, e, ?_, fun i x hx => ?_⟩
    · rcases h.2 with ⟨_, h1⟩ | ⟨_, cap, _, _, _, _, h4, h5, _⟩
      · omega
      · unfold maxLen at h5; omega
    · obtain ⟨v1, v2, v3⟩ := vcl_at l i x hx
      exact ⟨g, rfl, hg, hc _ _ v1, hc _ _ v2, hc _ _ v3⟩
  · obtain ⟨a, c, e⟩ := slice_shape h
    exact ⟨a, c, e, by omega, fun i x hx => by have := (List.getElem?_eq_some_iff.1 hx).1; omega⟩
set_option maxRecDepth 20000 in
set_option maxHeartbeats 4000000 in
theorem samev_eq (l : List Vl) (va vb : Value) (w : World) (ha : w.ownsRow 0 54 3 va l.length (vcl l)) (hb : w.ownsRow 0 54 3 vb l.length (vcl l)) : Calls Tryz.prog 21 #[va, vb] w fun e w' => e = .returned (.bool true) ∧ Below w.heap.size w w' := by
  obtain ⟨a, c, rfl, hm, ra⟩ := val_row ha
  obtain ⟨b, d, rfl, _, rb⟩ := val_row hb
  have HA : Hid _ := ra
  have HB : Hid _ := rb
  clear ra rb ha hb
  obtain ⟨n, hn⟩ : ∃ n, l.length = n := ⟨_, rfl⟩
  have HN : Hid (l.length = n) := hn
  rw [hn] at hm ⊢
  clear hn
  go_enter Tryz.func21, Tryz.ntmps21
  go_wp2
  go_loopw [5] (fun iv wx => ∃ k : Nat, iv = .int .i64 (k : Nat) ∧ k ≤ n ∧ Hid (Below w.heap.size w wx)) (fun iv _ => n - (intOf iv).toNat)
  case atStart => exact ⟨0, rfl, by omega, Below.refl _ _⟩
  case round =>
    obtain ⟨k, rfl, hk, HW⟩ := hrel
    by_cases hlt : k < n
    · have h1 : (k : Int) < (n : Int) := by omega
      have wk : IntKind.i64.wrap ((k : Int) + 1) = (k : Int) + 1 := by rw [IntKind.wrap_i64]; omega
      have hms : n - (k + 1) < n - k := by omega
      obtain ⟨x, hx⟩ : ∃ x, l[k]? = some x := ⟨l[k]'(by rw [HN.out]; exact hlt), List.getElem?_eq_getElem _⟩
      obtain ⟨g, rfl, l1, m0', m1', m2'⟩ := HA.out k x hx
      obtain ⟨g', rfl, l2, p0', p1', p2'⟩ := HB.out k x hx
      have m0 := (HW.out.drew.cell (p := ⟨g, k * 3, none⟩) l1).trans m0'
      have m1 := (HW.out.drew.cell (p := ⟨g, k * 3 + 1, none⟩) l1).trans m1'
      have m2 := (HW.out.drew.cell (p := ⟨g, k * 3 + 2, none⟩) l1).trans m2'
      have p0 := (HW.out.drew.cell (p := ⟨g', k * 3, none⟩) l2).trans p0'
      have p1 := (HW.out.drew.cell (p := ⟨g', k * 3 + 1, none⟩) l2).trans p1'
      have p2 := (HW.out.drew.cell (p := ⟨g', k * 3 + 2, none⟩) l2).trans p2'
      clear m0' m1' m2' p0' p1' p2'
      have e1 := neqV x.1 x.2.1 x.2.2
      clear hx
      go_wp2_with fail
      go_region
      go_wp2
      go_roundw
      case rel => exact ⟨k + 1, by go_num, by omega, HW.out.drew⟩
      case measure => first | omega | (simp only [intOf]; omega) | (simp; omega)
    · have h1 : ¬ (k : Int) < (n : Int) := by omega
      go_wp2
      go_ret
      exact ⟨rfl, HW.out⟩
/-- A report's functions and globals, cell by cell. -/
theorem fun_row {w : World} {vF vG : Value} {fs : List Fn} {gl : List Tx} (h : Rp w vF vG fs gl) : ∃ a c, vF = .slice a fs.length c ∧ fs.length ≤ 9223372036854775807 ∧ ∀ i f, fs[i]? = some f → ∃ g v, a = some ⟨g, 0, none⟩ ∧ g < w.heap.size ∧
    w.cell? ⟨g, i * 5 + 2, none⟩ = some (.int .i64 f.pa) ∧ w.cell? ⟨g, i * 5 + 3, none⟩ = some (.int .i64 f.sl) ∧ w.cell? ⟨g, i * 5 + 4, none⟩ = some v ∧ w.ownsRow 0 54 3 v f.cs.length (vcl f.cs) := by
  obtain ⟨vs, h1, h2, h3⟩ := h.fr
  by_cases h0 : 0 < fs.length
  · obtain ⟨g, c, e, hg, hc⟩ := own_one h1 h0
    refine ⟨_, c, e, ?_, fun i f hf => ?_⟩
    · rcases h1.2 with ⟨_, h1⟩ | ⟨_, cap, _, _, _, _, h4, h5, _⟩
      · omega
      · unfold maxLen at h5; omega
    · obtain ⟨hb, _⟩ := List.getElem?_eq_some_iff.1 hf
      obtain ⟨v, hv⟩ : ∃ v, vs[i]? = some v := ⟨vs[i]'(by omega), List.getElem?_eq_getElem _⟩
      obtain ⟨-, -, q2, q3, q4⟩ := fcl_at fs vs i f v hf hv
      exact ⟨g, v, rfl, hg, hc _ _ q2, hc _ _ q3, hc _ _ q4, h3 i f v hf hv⟩
  · obtain ⟨a, c, e⟩ := slice_shape h1
    exact ⟨a, c, e, by omega, fun i x hx => by have := (List.getElem?_eq_some_iff.1 hx).1; omega⟩
theorem glo_row {w : World} {vF vG : Value} {fs : List Fn} {gl : List Tx} (h : Rp w vF vG fs gl) : ∃ a c, vG = .slice a gl.length c ∧ gl.length ≤ 9223372036854775807 ∧ ∀ i t, gl[i]? = some t → ∃ g, a = some ⟨g, 0, none⟩ ∧ g < w.heap.size ∧ w.cell? ⟨g, i, none⟩ = some (.string ⟨t.toArray⟩) := by
  have h1 := h.gr
  by_cases h0 : 0 < gl.length
  · obtain ⟨g, c, e, hg, hc⟩ := own_one h1 h0
    refine ⟨_, c, e, ?_, fun i t ht => ⟨g, rfl, hg, hc _ _ (strs_at gl i t ht)⟩⟩
    rcases h1.2 with ⟨_, h1⟩ | ⟨_, cap, _, _, _, _, h4, h5, _⟩
    · omega
    · unfold maxLen at h5; omega
  · obtain ⟨a, c, e⟩ := slice_shape h1
    exact ⟨a, c, e, by omega, fun i x hx => by have := (List.getElem?_eq_some_iff.1 hx).1; omega⟩
end Go.Proofs.YtmejlldabdjpjaaGreat
