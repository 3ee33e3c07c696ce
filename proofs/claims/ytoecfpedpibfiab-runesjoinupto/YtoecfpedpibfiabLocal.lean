/- Plain facts on valid runes (no program in it): a valid rune is read the same wherever its bytes stand. -/
import Derived.Test.YtoecfpedpibfiabBytes
namespace Go.Proofs.Ytoecfpedpibfiab

theorem decodeN_local (n n' b0 b1 b2 b3 c1 c2 c3 : Nat) (hg : ¬ ((Lib.decodeN n b0 b1 b2 b3).1 = 65533 ∧ (Lib.decodeN n b0 b1 b2 b3).2 = 1)) (hn : (Lib.decodeN n b0 b1 b2 b3).2 ≤ n')
    (h1 : 2 ≤ (Lib.decodeN n b0 b1 b2 b3).2 → c1 = b1) (h2 : 3 ≤ (Lib.decodeN n b0 b1 b2 b3).2 → c2 = b2) (h3 : 4 ≤ (Lib.decodeN n b0 b1 b2 b3).2 → c3 = b3) :
    Lib.decodeN n' b0 c1 c2 c3 = Lib.decodeN n b0 b1 b2 b3 := by
  by_cases a1 : b0 < 128
  · unfold Lib.decodeN; rw [if_pos a1, if_pos a1]
  by_cases a2 : b0 / 32 = 6 ∧ 1 < n ∧ b1 / 64 = 2
  · by_cases a3 : b0 % 32 * 64 + b1 % 64 ≥ 128
    · have e : Lib.decodeN n b0 b1 b2 b3 = (b0 % 32 * 64 + b1 % 64, 2) := by unfold Lib.decodeN; rw [if_neg a1, if_pos a2, if_pos a3]
      rw [e] at hn h1 ⊢
      obtain rfl := h1 (Nat.le_refl _)
      unfold Lib.decodeN
      rw [if_neg a1, if_pos ⟨a2.1, hn, a2.2.2⟩, if_pos a3]
    · have e : Lib.decodeN n b0 b1 b2 b3 = (65533, 1) := by unfold Lib.decodeN; rw [if_neg a1, if_pos a2, if_neg a3]
      rw [e] at hg; simp at hg
  by_cases a4 : b0 / 16 = 14 ∧ (1 < n ∧ b1 / 64 = 2) ∧ 2 < n ∧ b2 / 64 = 2
  · by_cases a5 : b0 % 16 * 4096 + b1 % 64 * 64 + b2 % 64 ≥ 2048 ∧ (b0 % 16 * 4096 + b1 % 64 * 64 + b2 % 64 < 55296 ∨ 57344 ≤ b0 % 16 * 4096 + b1 % 64 * 64 + b2 % 64 ∧ b0 % 16 * 4096 + b1 % 64 * 64 + b2 % 64 ≤ 1114111)
    · have e : Lib.decodeN n b0 b1 b2 b3 = (b0 % 16 * 4096 + b1 % 64 * 64 + b2 % 64, 3) := by unfold Lib.decodeN; rw [if_neg a1, if_neg a2, if_pos a4, if_pos a5]
      rw [e] at hn h1 h2 ⊢
      obtain rfl := h1 (show 2 ≤ 3 by omega)
      obtain rfl := h2 (Nat.le_refl _)
      have hn' : 3 ≤ n' := hn
      unfold Lib.decodeN
      rw [if_neg a1, if_neg (by omega), if_pos ⟨a4.1, ⟨by omega, a4.2.1.2⟩, by omega, a4.2.2.2⟩, if_pos a5]
    · have e : Lib.decodeN n b0 b1 b2 b3 = (65533, 1) := by unfold Lib.decodeN; rw [if_neg a1, if_neg a2, if_pos a4, if_neg a5]
      rw [e] at hg; simp at hg
  by_cases a6 : b0 / 8 = 30 ∧ (1 < n ∧ b1 / 64 = 2) ∧ (2 < n ∧ b2 / 64 = 2) ∧ 3 < n ∧ b3 / 64 = 2
  · by_cases a7 : b0 % 8 * 262144 + b1 % 64 * 4096 + b2 % 64 * 64 + b3 % 64 ≥ 65536 ∧ (b0 % 8 * 262144 + b1 % 64 * 4096 + b2 % 64 * 64 + b3 % 64 < 55296 ∨ 57344 ≤ b0 % 8 * 262144 + b1 % 64 * 4096 + b2 % 64 * 64 + b3 % 64 ∧ b0 % 8 * 262144 + b1 % 64 * 4096 + b2 % 64 * 64 + b3 % 64 ≤ 1114111)
    · have e : Lib.decodeN n b0 b1 b2 b3 = (b0 % 8 * 262144 + b1 % 64 * 4096 + b2 % 64 * 64 + b3 % 64, 4) := by unfold Lib.decodeN; rw [if_neg a1, if_neg a2, if_neg a4, if_pos a6, if_pos a7]
      rw [e] at hn h1 h2 h3 ⊢
      obtain rfl := h1 (show 2 ≤ 4 by omega)
      obtain rfl := h2 (show 3 ≤ 4 by omega)
      obtain rfl := h3 (Nat.le_refl _)
      have hn' : 4 ≤ n' := hn
      unfold Lib.decodeN
      rw [if_neg a1, if_neg (by omega), if_neg (by omega), if_pos ⟨a6.1, ⟨by omega, a6.2.1.2⟩, ⟨by omega, a6.2.2.1.2⟩, by omega, a6.2.2.2.2⟩, if_pos a7]
    · have e : Lib.decodeN n b0 b1 b2 b3 = (65533, 1) := by unfold Lib.decodeN; rw [if_neg a1, if_neg a2, if_neg a4, if_pos a6, if_neg a7]
      rw [e] at hg; simp at hg
  · have e : Lib.decodeN n b0 b1 b2 b3 = (65533, 1) := by unfold Lib.decodeN; rw [if_neg a1, if_neg a2, if_neg a4, if_neg a6]
    rw [e] at hg; simp at hg

/-- A valid rune. -/
def okR (r : Rn) : Prop := ¬ (r.2.2 = 65533 ∧ r.2.1 = 1)

theorem decode_local (s t : ByteArray) (p q : Nat) (hg : okR (p, wd s p, rn s p)) (hn : q + wd s p ≤ t.size) (hb : ∀ i, i < wd s p → t.get! (q + i) = s.get! (p + i)) : wd t q = wd s p ∧ rn t q = rn s p := by
  have h0 := wd_pos s p
  unfold okR at hg
  simp only at hg
  have key : Utf8.decode t q = Utf8.decode s p := by
    unfold wd rn at *
    rw [Lib.decode_at s p] at *
    rw [Lib.decode_at t q]
    have e0 : (t.get! q).toNat = (s.get! p).toNat := by have := hb 0 (by omega); simp only [Nat.add_zero] at this; rw [this]
    rw [e0]
    exact decodeN_local _ _ _ _ _ _ _ _ _ hg (by omega) (fun h => by rw [hb 1 (by omega)]) (fun h => by rw [hb 2 (by omega)]) (fun h => by rw [hb 3 (by omega)])
  unfold wd rn
  rw [key]
  exact ⟨rfl, rfl⟩

/-- Where a row of runes ends that begins at p. -/
def en (p : Nat) : List Rn → Nat
  | [] => p
  | r :: A => en (p + r.2.1) A
theorem en_ge : ∀ (A : List Rn) (p : Nat), p ≤ en p A
  | [], p => Nat.le_refl p
  | r :: A, p => Nat.le_trans (Nat.le_add_right p r.2.1) (en_ge A _)
theorem rest_en (s : ByteArray) : ∀ (A l : List Rn) (p : Nat), rest s p = A ++ l → l = rest s (en p A)
  | [], l, p, h => h.symm
  | r :: A, l, p, h => by
    rcases Nat.lt_or_ge p s.size with h1 | h1
    · rw [rest_at s p h1] at h
      obtain ⟨h2, h3⟩ := List.cons.inj h
      subst h2
      exact rest_en s A l _ h3
    · rw [rest_end s p (by omega)] at h; cases h
theorem en_le (s : ByteArray) : ∀ (A l : List Rn) (p : Nat), p ≤ s.size → rest s p = A ++ l → en p A ≤ s.size
  | [], _, _, hp, _ => hp
  | r :: A, l, p, _, h => by
    rcases Nat.lt_or_ge p s.size with h1 | h1
    · rw [rest_at s p h1] at h
      obtain ⟨h2, h3⟩ := List.cons.inj h
      subst h2
      exact en_le s A l _ (wd_le s p h1) h3
    · rw [rest_end s p (by omega)] at h; cases h
/-- A rune behind a row of runes begins where it ends. -/
theorem en_at (s : ByteArray) (A l : List Rn) (r : Rn) (p : Nat) (h : rest s p = A ++ r :: l) : r.1 = en p A := by
  have h1 := rest_en s A (r :: l) p h
  rcases Nat.lt_or_ge (en p A) s.size with h2 | h2
  · rw [rest_at s _ h2] at h1
    rw [(List.cons.inj h1).1]
  · rw [rest_end s _ (by omega)] at h1; cases h1
theorem en_all (s : ByteArray) (p : Nat) (hp : p ≤ s.size) : en p (rest s p) = s.size := by
  have h1 := en_le s (rest s p) [] p hp (by simp)
  have h2 := rest_en s (rest s p) [] p (by simp)
  rcases Nat.lt_or_ge (en p (rest s p)) s.size with h3 | h3
  · rw [rest_at s _ h3] at h2; cases h2
  · omega

/-- Valid runes at a text's begin are there in each text that has the same bytes there. -/
theorem rest_agree (s x : ByteArray) : ∀ (A l : List Rn) (p : Nat), rest s p = A ++ l → (∀ r ∈ A, okR r) → en p A ≤ x.size → (∀ i, p ≤ i → i < en p A → x.get! i = s.get! i) → rest x p = A ++ rest x (en p A)
  | [], _, _, _, _, _, _ => rfl
  | r :: A, l, p, h, hg, hx, hb => by
    rcases Nat.lt_or_ge p s.size with h1 | h1
    · rw [rest_at s p h1] at h
      obtain ⟨h2, h3⟩ := List.cons.inj h
      subst h2
      have hw := wd_pos s p
      have hge := en_ge A (p + wd s p)
      have hen : en p ((p, wd s p, rn s p) :: A) = en (p + wd s p) A := rfl
      rw [hen] at hx hb
      obtain ⟨k1, k2⟩ := decode_local s x p p (hg _ (by simp)) (by omega) (fun i hi => hb (p + i) (by omega) (by omega))
      have ih := rest_agree s x A l _ h3 (fun r hr => hg r (by simp [hr])) hx (fun i h4 h5 => hb i (by omega) h5)
      rw [rest_at x p (by omega), k1, k2, ih, hen]
      rfl
    · rw [rest_end s p (by omega)] at h; cases h

/-- A valid rune's bytes are read as one rune wherever they stand. -/
def Chunk (c : List UInt8) : Prop := c ≠ [] ∧ ∀ (t : ByteArray) (q : Nat), (t.data.toList.drop q).take c.length = c → wd t q = c.length
theorem chunk_of (s : ByteArray) (p : Nat) (hp : p < s.size) (hg : okR (p, wd s p, rn s p)) : Chunk (rb s (p, wd s p, rn s p)) := by
  have hw := wd_pos s p
  have hl := wd_le s p hp
  have hsz : ∀ x : ByteArray, x.data.toList.length = x.size := fun x => Array.length_toList
  have hlen : (rb s (p, wd s p, rn s p)).length = wd s p := by rw [rb_eq, List.length_take, List.length_drop, hsz]; simp only; omega
  refine ⟨fun h => by rw [h] at hlen; simp at hlen; omega, fun t q h => ?_⟩
  rw [hlen] at h ⊢
  have hlt : q + wd s p ≤ t.size := by
    have h1 := congrArg List.length h
    rw [hlen, List.length_take, List.length_drop, hsz] at h1
    omega
  refine (decode_local s t p q hg hlt (fun i hi => ?_)).1
  rw [rb_eq] at h
  simp only at h
  have h1 := congrArg (fun l => l.getD i 0) h
  simp only [List.getD, List.getElem?_take_of_lt hi, List.getElem?_drop] at h1
  rw [get_data, get_data]
  exact h1

theorem chunks_rest (t : ByteArray) : ∀ (cs : List (List UInt8)) (q : Nat), (∀ c ∈ cs, Chunk c) → t.data.toList.drop q = cs.flatten → (rest t q).map (rb t) = cs
  | [], q, _, h => by
    have : ¬ q < t.size := fun h1 => by
      have h2 := congrArg List.length h
      rw [List.length_drop] at h2
      have : t.data.toList.length = t.size := Array.length_toList
      simp at h2
      have h3 : t.data.size = t.size := rfl
      omega
    rw [rest_end t q this]; rfl
  | c :: cs, q, hc, h => by
    rw [List.flatten_cons] at h
    obtain ⟨hne, hch⟩ := hc c (by simp)
    have ht : (t.data.toList.drop q).take c.length = c := by rw [h]; exact List.take_left
    have hw := hch t q ht
    have hcl : 0 < c.length := List.length_pos_iff.2 hne
    have hq : q < t.size := by
      rcases Nat.lt_or_ge q t.size with h1 | h1
      · exact h1
      · have h2 : t.data.toList.drop q = [] := List.drop_eq_nil_of_le (by rw [Array.length_toList]; exact h1)
        rw [h2] at ht
        simp at ht
        exact absurd ht hne
    have ih := chunks_rest t cs (q + c.length) (fun d hd => hc d (by simp [hd])) (by rw [← List.drop_drop, h]; exact List.drop_left)
    rw [rest_at t q hq, List.map_cons, hw, ih, rb_eq]
    simp only
    rw [ht]

theorem bytesOf_rev (s : ByteArray) (l : List Rn) : bytesOf s l.reverse = (l.map (rb s)).reverse.flatten := by
  rw [bytesOf, List.flatMap_def, List.map_reverse]

/-- A valid text turned twice is the text. -/
theorem turn_twice (s : ByteArray) (hg : ∀ r ∈ rest s 0, okR r) : bytesOf ⟨(bytesOf s (rest s 0).reverse).toArray⟩ (rest ⟨(bytesOf s (rest s 0).reverse).toArray⟩ 0).reverse = s.data.toList := by
  have hch : ∀ c ∈ ((rest s 0).map (rb s)).reverse, Chunk c := by
    intro c hc
    rw [List.mem_reverse, List.mem_map] at hc
    obtain ⟨r, hr, rfl⟩ := hc
    obtain ⟨k, hk, rfl⟩ := List.getElem_of_mem hr
    have h1 := hg _ hr
    rw [get_pos s k hk] at h1 ⊢
    exact chunk_of s _ (pos_lt s k hk) h1
  have h2 := chunks_rest ⟨(bytesOf s (rest s 0).reverse).toArray⟩ _ 0 hch (by rw [List.drop_zero, ← bytesOf_rev])
  rw [bytesOf_rev, h2, List.reverse_reverse, ← List.flatMap_def]
  exact (bytes_rest s 0).trans (List.drop_zero)

end Go.Proofs.Ytoecfpedpibfiab
