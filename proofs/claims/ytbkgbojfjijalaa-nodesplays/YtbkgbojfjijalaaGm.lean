/- The pure part, on: a part is a map of keys to values. -/
import Derived.Test.YtbkgbojfjijalaaDu
namespace Go.Proofs.Ytbkgbojfjijalaa
open Go.RowKit

/-- What Get answers. -/
def mg (z : Nat) (g : G) (k : V) : V := xAt g (fnd z g k).1
theorem fnd_good {z : Nat} {g : G} {k : V} (hz : z ≠ 0) (hk : KOK k) : fnd z g k = find (pl z) g k := by
  rw [fnd, if_neg]
  rintro (e | e | e)
  · exact hz e
  · have := hk.1; unfold fm at e; rw [this] at e; cases e
  · exact hk.2.1 e
theorem mg_held {z : Nat} {g : G} {k : V} (hi : Inv z (pl z) KOK g) (hz : pw z = true) (hk : KOK k) {i : Nat} (hiz : i < z) (he : g.K i = k) : mg z g k = g.X i := by
  have hz0 : z ≠ 0 := by omega
  obtain ⟨p, q, _, _, hf⟩ := hi.find_held (fun k _ => pl_lt hz k) hiz (by rw [he]; exact hk.ne)
  rw [he] at hf
  rw [mg, fnd_good hz0 hk, hf]
  rfl
theorem mg_not {z : Nat} {g : G} {k : V} (hi : Inv z (pl z) KOK g) (hz : pw z = true) (hk : KOK k) (hn : ∀ i, i < z → g.K i ≠ k) : mg z g k = nil := by
  have hz0 : z ≠ 0 := by have := (pw_bounds z hz).1; omega
  rw [mg, fnd_good hz0 hk]
  cases hf : find (pl z) g k with
  | mk o n =>
    cases o with
    | none => rfl
    | some i =>
      have := hi.find_some (fun k _ => pl_lt hz k) hk hf
      exact absurd this.1 (hn i this.2.1)
theorem form_nil {v : V} (h : fm v = true) (h0 : v.1 = 0) : v = nil := by
  obtain ⟨k, n, s⟩ := v
  simp only at h0
  subst h0
  simp only [fm, inF, if_true, Bool.and_eq_true, decide_eq_true_eq, List.isEmpty_iff] at h
  obtain ⟨rfl, hs⟩ := h
  rw [ByteArray.toList_eq] at hs
  obtain ⟨⟨l⟩⟩ := s
  simp at hs
  subst hs
  rfl
/-- A Put without an error: the key has the value, all others what they had. -/
theorem put_map {z : Nat} {g : G} {k v : V} (hi : Inv z (pl z) KOK g) (hz : Rt z) (hr : Rng k) (he : (put z g k v).2.2 = 0) :
    KOK k ∧ mg z (put z g k v).1 k = v ∧ ∀ k', KOK k' → k' ≠ k → mg z (put z g k v).1 k' = mg z g k' := by
  by_cases hf : fm k = true ∧ fm v = true
  · by_cases hk0 : k.1 = 0
    · rw [put, if_pos hf, if_pos hk0] at he; cases he
    · have hk : KOK k := ⟨hf.1, hk0, hr.1, hr.2⟩
      refine ⟨hk, ?_⟩
      by_cases hz0 : z = 0
      · have e : put z g k v = (g, 0, if v.1 = 0 then 0 else 12) := by rw [put, if_pos hf, if_neg hk0, if_pos hz0]
        rw [e] at he ⊢
        have hv0 : v.1 = 0 := by
          by_cases q : v.1 = 0
          · exact q
          · simp only [if_neg q] at he; cases he
        refine ⟨?_, fun k' _ _ => rfl⟩
        rw [form_nil hf.2 hv0]
        show mg z g k = nil
        rw [mg, fnd, if_pos (Or.inl hz0)]
        rfl
      · have hz' := hz.resolve_left hz0
        have hinv := (put_inv k v hi hz hr).1
        have hold : ∀ k', KOK k' → (∃ i, i < z ∧ g.K i = k') ∨ ∀ i, i < z → g.K i ≠ k' := fun k' _ => by
          by_cases q : ∃ i, i < z ∧ g.K i = k'
          · exact .inl q
          · exact .inr fun i hi e => q ⟨i, hi, e⟩
        rw [put, if_pos hf, if_neg hk0, if_neg hz0] at he hinv ⊢
        cases hfi : find (pl z) g k with
        | mk o n =>
          rw [hfi] at he hinv
          cases o with
          | some i =>
            simp only at he hinv ⊢
            obtain ⟨h1, h2, h3⟩ := hi.find_some (fun k _ => pl_lt hz' k) hk hfi
            refine ⟨?_, fun k' hk' hne => ?_⟩
            · rw [mg_held hinv hz' hk h2 h1]; exact upd_at _ _ _
            · rcases hold k' hk' with ⟨j, hj, ej⟩ | hn
              · rw [mg_held hinv hz' hk' hj ej, mg_held hi hz' hk' hj ej]
                exact upd_ne _ _ (fun e => hne (by rw [← ej, e, h1]))
              · rw [mg_not hinv hz' hk' hn, mg_not hi hz' hk' hn]
          | none =>
            have hnew := hi.find_none (fun k _ => pl_lt hz' k) hk.ne hfi
            simp only at he hinv ⊢
            by_cases hv0 : v.1 = 0
            · rw [if_pos hv0]
              refine ⟨?_, fun k' _ _ => rfl⟩
              rw [mg_not hi hz' hk hnew, form_nil hf.2 hv0]
            · rw [if_neg hv0] at he hinv ⊢
              simp only at he hinv ⊢
              have hb : (ins (pl z) g k v).2 = true := by
                cases q : (ins (pl z) g k v).2 with
                | true => rfl
                | false => rw [q] at he; exact absurd he (by decide)
              have hm := hi.ins_map (fun k _ => pl_lt hz' k) v hk hb
              refine ⟨?_, fun k' hk' hne => ?_⟩
              · obtain ⟨i, hi1, hi2, hi3⟩ := (hm k v hk.ne).2 (.inl ⟨rfl, rfl⟩)
                rw [mg_held hinv hz' hk hi1 hi2]; exact hi3
              · rcases hold k' hk' with ⟨j, hj, ej⟩ | hn
                · obtain ⟨i, hi1, hi2, hi3⟩ := (hm k' (g.X j) hk'.ne).2 (.inr ⟨j, hj, ej, rfl⟩)
                  rw [mg_held hinv hz' hk' hi1 hi2, hi3, mg_held hi hz' hk' hj ej]
                · rw [mg_not hi hz' hk' hn, mg_not hinv hz' hk' (fun i hi1 e => ?_)]
                  rcases (hm k' _ hk'.ne).1 ⟨i, hi1, e, rfl⟩ with ⟨q, _⟩ | ⟨j, hj, ej, _⟩
                  · exact hne q
                  · exact hn j hj ej
  · rw [put, if_neg hf] at he; cases he
/-- A Put with an error: all keys have what they had; which error. -/
theorem put_bad {z : Nat} {g : G} {k v : V} (he : (put z g k v).2.2 ≠ 0) : (∀ k', mg z (put z g k v).1 k' = mg z g k') ∧ ((put z g k v).2.2 = 12 ∨ ((put z g k v).2.2 = 2 ∧ ¬ (fm k = true ∧ fm v = true)) ∨ ((put z g k v).2.2 = 9 ∧ fm k = true ∧ fm v = true ∧ k.1 = 0)) := by
  by_cases hf : fm k = true ∧ fm v = true
  · by_cases hk0 : k.1 = 0
    · rw [put, if_pos hf, if_pos hk0]; exact ⟨fun _ => rfl, .inr (.inr ⟨rfl, hf.1, hf.2, hk0⟩)⟩
    · by_cases hz0 : z = 0
      · rw [put, if_pos hf, if_neg hk0, if_pos hz0] at he ⊢
        by_cases q : v.1 = 0
        · simp only [if_pos q] at he; exact absurd rfl he
        · exact ⟨fun _ => rfl, .inl (if_neg q)⟩
      · rw [put, if_pos hf, if_neg hk0, if_neg hz0] at he ⊢
        cases hfi : find (pl z) g k with
        | mk o n =>
          rw [hfi] at he
          cases o with
          | some i => exact absurd rfl he
          | none =>
            simp only at he ⊢
            by_cases hv0 : v.1 = 0
            · rw [if_pos hv0] at he; exact absurd rfl he
            · rw [if_neg hv0] at he ⊢
              unfold ins at he ⊢
              by_cases e1 : g.K (pl z k) = nil
              · rw [if_pos e1] at he; exact absurd rfl he
              · rw [if_neg e1] at he ⊢
                cases ht : tf g.K g.f with
                | none => exact ⟨fun _ => rfl, .inl rfl⟩
                | some a =>
                  rw [ht] at he
                  simp only at he
                  split at he <;> exact absurd rfl he
  · rw [put, if_neg hf]; exact ⟨fun _ => rfl, .inr (.inl ⟨rfl, hf⟩)⟩
end Go.Proofs.Ytbkgbojfjijalaa
