/- Plain facts on the bytes of a text's runes (no program in it): where the k-th rune begins; the runes' bytes are the text's. -/
import Derived.Test.YtbgbhogcjaodkaaCg00
import Derived.Test.YtbgbhogcjaodkaaCg01
import Derived.Test.YtbgbhogcjaodkaaCg02
import Derived.Test.YtbgbhogcjaodkaaCg03
namespace Go.Proofs.Ytbgbhogcjaodkaa

/-- Where the k-th rune begins. -/
def pos (s : ByteArray) : Nat → Nat
  | 0 => 0
  | k + 1 => if pos s k < s.size then pos s k + wd s (pos s k) else pos s k

theorem pos_le (s : ByteArray) : ∀ k, pos s k ≤ s.size
  | 0 => Nat.zero_le _
  | k + 1 => by
    have := pos_le s k
    rw [pos]
    split
    · exact wd_le s _ (by assumption)
    · exact this

theorem drop_pos (s : ByteArray) : ∀ k, (rest s 0).drop k = rest s (pos s k)
  | 0 => rfl
  | k + 1 => by
    have ih := drop_pos s k
    rw [← List.drop_drop, ih, pos]
    split
    · rename_i h; rw [rest_at s _ h]; rfl
    · rename_i h; rw [rest_end s _ h]; rfl

theorem pos_lt (s : ByteArray) (k : Nat) (h : k < (rest s 0).length) : pos s k < s.size := by
  rcases Nat.lt_or_ge (pos s k) s.size with h1 | h1
  · exact h1
  · have h2 := drop_pos s k
    have h3 := rest_end s (pos s k) (by omega)
    have := List.drop_eq_nil_iff.1 (h2.trans h3)
    omega

theorem get_pos (s : ByteArray) (k : Nat) (h : k < (rest s 0).length) : (rest s 0)[k] = (pos s k, wd s (pos s k), rn s (pos s k)) := by
  have h1 := drop_pos s k
  rw [rest_at s _ (pos_lt s k h), List.drop_eq_getElem_cons h] at h1
  exact (List.cons.inj h1).1

theorem pos_succ (s : ByteArray) (k : Nat) (h : k < (rest s 0).length) : pos s (k + 1) = pos s k + wd s (pos s k) := by
  rw [pos, if_pos (pos_lt s k h)]

theorem pos_end (s : ByteArray) (k : Nat) (h : (rest s 0).length ≤ k) : pos s k = s.size := by
  have h1 := drop_pos s k
  rw [List.drop_eq_nil_of_le h] at h1
  rcases Nat.lt_or_ge (pos s k) s.size with h2 | h2
  · rw [rest_at s _ h2] at h1; cases h1
  · have := pos_le s k; omega

theorem pos_mono (s : ByteArray) (i j : Nat) (h : i ≤ j) : pos s i ≤ pos s j := by
  induction j with
  | zero => have : i = 0 := by omega
            subst this; exact Nat.le_refl _
  | succ j ih =>
    rcases Nat.lt_or_ge j i with h1 | h1
    · have : i = j + 1 := by omega
      subst this; exact Nat.le_refl _
    · have := ih h1
      rw [pos]
      split <;> omega

theorem mid_pos (s : ByteArray) (done : List Rn) (r : Rn) (l : List Rn) (h : rest s 0 = done ++ r :: l) : r = (pos s done.length, wd s (pos s done.length), rn s (pos s done.length)) ∧ pos s done.length < s.size := by
  have hk : done.length < (rest s 0).length := by rw [h]; simp
  have h1 := get_pos s done.length hk
  refine ⟨?_, pos_lt s _ hk⟩
  rw [← h1]
  simp [h]

/-- A rune's bytes; those of a list. -/
def rb (s : ByteArray) (r : Rn) : List UInt8 := (s.extract r.1 (r.1 + r.2.1)).data.toList
def bytesOf (s : ByteArray) (l : List Rn) : List UInt8 := l.flatMap (rb s)
theorem rb_eq (s : ByteArray) (r : Rn) : rb s r = (s.data.toList.drop r.1).take r.2.1 := by
  unfold rb
  simp [ByteArray.data_extract, Array.toList_extract]
theorem bytesOf_append (s : ByteArray) (a b : List Rn) : bytesOf s (a ++ b) = bytesOf s a ++ bytesOf s b := by simp [bytesOf]
theorem bytesOf_snoc (s : ByteArray) (a : List Rn) (r : Rn) : bytesOf s (a ++ [r]) = bytesOf s a ++ rb s r := by simp [bytesOf]

theorem bytes_rest (s : ByteArray) (p : Nat) : bytesOf s (rest s p) = s.data.toList.drop p := by
  by_cases h : p < s.size
  · have ih := bytes_rest s (p + wd s p)
    rw [rest_at s p h]
    show rb s _ ++ bytesOf s (rest s (p + wd s p)) = _
    rw [ih, rb_eq, ← List.drop_drop]
    exact List.take_append_drop _ _
  · rw [rest_end s p h]
    exact (List.drop_eq_nil_of_le (by rw [Array.length_toList]; exact Nat.le_of_not_lt h)).symm
termination_by s.size - p
decreasing_by have := wd_pos s p; omega

theorem bytes_drop (s : ByteArray) (k : Nat) : bytesOf s ((rest s 0).drop k) = s.data.toList.drop (pos s k) := by
  rw [drop_pos, bytes_rest]

theorem bytes_take (s : ByteArray) (k : Nat) : bytesOf s ((rest s 0).take k) = s.data.toList.take (pos s k) := by
  have h1 : bytesOf s ((rest s 0).take k) ++ bytesOf s ((rest s 0).drop k) = s.data.toList.take (pos s k) ++ s.data.toList.drop (pos s k) := by
    rw [← bytesOf_append, List.take_append_drop, List.take_append_drop, bytes_rest, List.drop_zero]
  exact List.append_inj_left' h1 (by rw [bytes_drop])

/-- The bytes of the runes from i on, below j. -/
theorem bytes_mid (s : ByteArray) (i j : Nat) (h : i ≤ j) : bytesOf s (((rest s 0).take j).drop i) = (s.data.toList.take (pos s j)).drop (pos s i) := by
  have h1 : bytesOf s (((rest s 0).take j).take i) ++ bytesOf s (((rest s 0).take j).drop i) = (s.data.toList.take (pos s j)).take (pos s i) ++ (s.data.toList.take (pos s j)).drop (pos s i) := by
    rw [← bytesOf_append, List.take_append_drop, List.take_append_drop, bytes_take]
  have h2 : bytesOf s (((rest s 0).take j).take i) = (s.data.toList.take (pos s j)).take (pos s i) := by
    rw [List.take_take, List.take_take, Nat.min_eq_left h, Nat.min_eq_left (pos_mono s i j h), bytes_take]
  rw [h2] at h1
  exact List.append_cancel_left h1

theorem bytes_none (s : ByteArray) (L : List Rn) (i j : Nat) (h : j ≤ i) : bytesOf s ((L.take j).drop i) = [] := by
  rw [List.drop_eq_nil_of_le (by rw [List.length_take]; omega)]
  rfl

theorem bytes_take_le (s : ByteArray) (l : List Rn) (k : Nat) : (bytesOf s (l.take k)).length ≤ (bytesOf s l).length := by
  have h := congrArg (fun x => (bytesOf s x).length) (List.take_append_drop k l)
  simp only [bytesOf_append, List.length_append] at h
  omega
theorem bytes_drop_le (s : ByteArray) (l : List Rn) (k : Nat) : (bytesOf s (l.drop k)).length ≤ (bytesOf s l).length := by
  have h := congrArg (fun x => (bytesOf s x).length) (List.take_append_drop k l)
  simp only [bytesOf_append, List.length_append] at h
  omega

/-- As many bytes at most as the text has. -/
theorem bytes_len (s : ByteArray) (done : List Rn) (r : Rn) (l : List Rn) (h : rest s 0 = done ++ r :: l) : (bytesOf s done).length + r.2.1 ≤ s.size ∧ (rb s r).length = r.2.1 := by
  obtain ⟨hr, hp⟩ := mid_pos s done r l h
  have hw := wd_le s _ hp
  have h1 := bytes_take s done.length
  rw [h, List.take_left] at h1
  have hsz : s.data.toList.length = s.size := Array.length_toList
  rw [h1, List.length_take, hsz, hr]
  refine ⟨by simp only; omega, ?_⟩
  rw [rb_eq, List.length_take, List.length_drop, hsz]
  simp only; omega

/-- One rune more, of those from i on, below j. -/
theorem mid_snoc_in (done : List Rn) (r : Rn) (i j : Nat) (h1 : i ≤ done.length) (h2 : done.length < j) : ((done ++ [r]).take j).drop i = (done.take j).drop i ++ [r] := by
  rw [List.take_of_length_le (by simp; omega), List.take_of_length_le (by omega), List.drop_append_of_le_length h1]
theorem mid_snoc_out (done : List Rn) (r : Rn) (i j : Nat) (h : ¬ (i ≤ done.length ∧ done.length < j)) : ((done ++ [r]).take j).drop i = (done.take j).drop i := by
  by_cases h2 : done.length < j
  · have h1 : done.length < i := by omega
    rw [List.drop_eq_nil_of_le (by rw [List.length_take]; simp; omega), List.drop_eq_nil_of_le (by rw [List.length_take]; omega)]
  · rw [List.take_append_of_le_length (by omega)]

/-- Stopping behind rune number j - 1 changes nothing of the runes below j. -/
theorem take_runTo (j : Int) (l : List Rn) : ∀ done, (runTo (fun d => decide ((d.length : Int) < j)) done l).take j.toNat = (done ++ l).take j.toNat := by
  induction l with
  | nil => intro done; simp [runTo]
  | cons r l ih =>
    intro done
    rw [runTo]
    by_cases h : ((done ++ [r]).length : Int) < j
    · rw [if_pos (decide_eq_true h), ih]; simp
    · rw [if_neg (by simpa using h)]
      have e : done ++ r :: l = (done ++ [r]) ++ l := by simp
      rw [e, List.take_append_of_le_length (l₁ := done ++ [r]) (by omega)]

end Go.Proofs.Ytbgbhogcjaodkaa

/- Plain facts on valid runes (no program in it): a valid rune is read the same wherever its bytes stand. -/
namespace Go.Proofs.Ytbgbhogcjaodkaa

theorem decodeN_local (n n' b0 b1 b2 b3 c1 c2 c3 : Nat) (hg : ¬ ((Lib.decodeN n b0 b1 b2 b3).1 = 65533 ∧ (Lib.decodeN n b0 b1 b2 b3).2 = 1)) (hn : (Lib.decodeN n b0 b1 b2 b3).2 ≤ n')
    (h1 : 2 ≤ (Lib.decodeN n b0 b1 b2 b3).2 → c1 = b1) (h2 : 3 ≤ (Lib.decodeN n b0 b1 b2 b3).2 → c2 = b2) (h3 : 4 ≤ (Lib.decodeN n b0 b1 b2 b3).2 → c3 = b3) :
    Lib.decodeN n' b0 c1 c2 c3 = Lib.decodeN n b0 b1 b2 b3 := by
  by_cases a1 : b0 < 128
  · unfold Lib.decodeN; rw [if_pos a1, if_pos a1]
  by_cases a2 : b0 / 32 = 6 ∧ 1 < n ∧ b1 / 64 = 2
  · by_cases a3 : b0 % 32 * 64 + b1 % 64 ≥ 128
    · have e : Lib.decodeN n b0 b1 b2 b3 = (b0 % 32 * 64 + b1 % 64, 2) := by unfold Lib.decodeN; rw [if_neg a1, if_pos a2, if_pos a3]
      rw [e] at hn h1 ⊢
      obtain rfl := h1 (Nat.le_refl _)
      unfold Lib.decodeN
      rw [if_neg a1, if_pos ⟨a2.1, hn, a2.2.2⟩, if_pos a3]
    · have e : Lib.decodeN n b0 b1 b2 b3 = (65533, 1) := by unfold Lib.decodeN; rw [if_neg a1, if_pos a2, if_neg a3]
      rw [e] at hg; simp at hg
  by_cases a4 : b0 / 16 = 14 ∧ (1 < n ∧ b1 / 64 = 2) ∧ 2 < n ∧ b2 / 64 = 2
  · by_cases a5 : b0 % 16 * 4096 + b1 % 64 * 64 + b2 % 64 ≥ 2048 ∧ (b0 % 16 * 4096 + b1 % 64 * 64 + b2 % 64 < 55296 ∨ 57344 ≤ b0 % 16 * 4096 + b1 % 64 * 64 + b2 % 64 ∧ b0 % 16 * 4096 + b1 % 64 * 64 + b2 % 64 ≤ 1114111)
    · have e : Lib.decodeN n b0 b1 b2 b3 = (b0 % 16 * 4096 + b1 % 64 * 64 + b2 % 64, 3) := by unfold Lib.decodeN; rw [if_neg a1, if_neg a2, if_pos a4, if_pos a5]
      rw [e] at hn h1 h2 ⊢
      obtain rfl := h1 (show 2 ≤ 3 by omega)
      obtain rfl := h2 (Nat.le_refl _)
      have hn' : 3 ≤ n' := hn
      unfold Lib.decodeN
      rw [if_neg a1, if_neg (by omega), if_pos ⟨a4.1, ⟨by omega, a4.2.1.2⟩, by omega, a4.2.2.2⟩, if_pos a5]
    · have e : Lib.decodeN n b0 b1 b2 b3 = (65533, 1) := by unfold Lib.decodeN; rw [if_neg a1, if_neg a2, if_pos a4, if_neg a5]
      rw [e] at hg; simp at hg
  by_cases a6 : b0 / 8 = 30 ∧ (1 < n ∧ b1 / 64 = 2) ∧ (2 < n ∧ b2 / 64 = 2) ∧ 3 < n ∧ b3 / 64 = 2
  · by_cases a7 : b0 % 8 * 262144 + b1 % 64 * 4096 + b2 % 64 * 64 + b3 % 64 ≥ 65536 ∧ (b0 % 8 * 262144 + b1 % 64 * 4096 + b2 % 64 * 64 + b3 % 64 < 55296 ∨ 57344 ≤ b0 % 8 * 262144 + b1 % 64 * 4096 + b2 % 64 * 64 + b3 % 64 ∧ b0 % 8 * 262144 + b1 % 64 * 4096 + b2 % 64 * 64 + b3 % 64 ≤ 1114111)
    · have e : Lib.decodeN n b0 b1 b2 b3 = (b0 % 8 * 262144 + b1 % 64 * 4096 + b2 % 64 * 64 + b3 % 64, 4) := by unfold Lib.decodeN; rw [if_neg a1, if_neg a2, if_neg a4, if_pos a6, if_pos a7]
      rw [e] at hn h1 h2 h3 ⊢
      obtain rfl := h1 (show 2 ≤ 4 by omega)
      obtain rfl := h2 (show 3 ≤ 4 by omega)
      obtain rfl := h3 (Nat.le_refl _)
      have hn' : 4 ≤ n' := hn
      unfold Lib.decodeN
      rw [if_neg a1, if_neg (by omega), if_neg (by omega), if_pos ⟨a6.1, ⟨by omega, a6.2.1.2⟩, ⟨by omega, a6.2.2.1.2⟩, by omega, a6.2.2.2.2⟩, if_pos a7]
    · have e : Lib.decodeN n b0 b1 b2 b3 = (65533, 1) := by unfold Lib.decodeN; rw [if_neg a1, if_neg a2, if_neg a4, if_pos a6, if_neg a7]
      rw [e] at hg; simp at hg
  · have e : Lib.decodeN n b0 b1 b2 b3 = (65533, 1) := by unfold Lib.decodeN; rw [if_neg a1, if_neg a2, if_neg a4, if_neg a6]
    rw [e] at hg; simp at hg

/-- A valid rune. -/
def okR (r : Rn) : Prop := ¬ (r.2.2 = 65533 ∧ r.2.1 = 1)

theorem decode_local (s t : ByteArray) (p q : Nat) (hg : okR (p, wd s p, rn s p)) (hn : q + wd s p ≤ t.size) (hb : ∀ i, i < wd s p → t.get! (q + i) = s.get! (p + i)) : wd t q = wd s p ∧ rn t q = rn s p := by
  have h0 := wd_pos s p
  unfold okR at hg
  simp only at hg
  have key : Utf8.decode t q = Utf8.decode s p := by
    unfold wd rn at *
    rw [Lib.decode_at s p] at *
    rw [Lib.decode_at t q]
    have e0 : (t.get! q).toNat = (s.get! p).toNat := by have := hb 0 (by omega); simp only [Nat.add_zero] at this; rw [this]
    rw [e0]
    exact decodeN_local _ _ _ _ _ _ _ _ _ hg (by omega) (fun h => by rw [hb 1 (by omega)]) (fun h => by rw [hb 2 (by omega)]) (fun h => by rw [hb 3 (by omega)])
  unfold wd rn
  rw [key]
  exact ⟨rfl, rfl⟩

/-- Where a row of runes ends that begins at p. -/
def en (p : Nat) : List Rn → Nat
  | [] => p
  | r :: A => en (p + r.2.1) A
theorem en_ge : ∀ (A : List Rn) (p : Nat), p ≤ en p A
  | [], p => Nat.le_refl p
  | r :: A, p => Nat.le_trans (Nat.le_add_right p r.2.1) (en_ge A _)
theorem rest_en (s : ByteArray) : ∀ (A l : List Rn) (p : Nat), rest s p = A ++ l → l = rest s (en p A)
  | [], l, p, h => h.symm
  | r :: A, l, p, h => by
    rcases Nat.lt_or_ge p s.size with h1 | h1
    · rw [rest_at s p h1] at h
      obtain ⟨h2, h3⟩ := List.cons.inj h
      subst h2
      exact rest_en s A l _ h3
    · rw [rest_end s p (by omega)] at h; cases h
theorem en_le (s : ByteArray) : ∀ (A l : List Rn) (p : Nat), p ≤ s.size → rest s p = A ++ l → en p A ≤ s.size
  | [], _, _, hp, _ => hp
  | r :: A, l, p, _, h => by
    rcases Nat.lt_or_ge p s.size with h1 | h1
    · rw [rest_at s p h1] at h
      obtain ⟨h2, h3⟩ := List.cons.inj h
      subst h2
      exact en_le s A l _ (wd_le s p h1) h3
    · rw [rest_end s p (by omega)] at h; cases h
/-- A rune behind a row of runes begins where it ends. -/
theorem en_at (s : ByteArray) (A l : List Rn) (r : Rn) (p : Nat) (h : rest s p = A ++ r :: l) : r.1 = en p A := by
  have h1 := rest_en s A (r :: l) p h
  rcases Nat.lt_or_ge (en p A) s.size with h2 | h2
  · rw [rest_at s _ h2] at h1
    rw [(List.cons.inj h1).1]
  · rw [rest_end s _ (by omega)] at h1; cases h1
theorem en_all (s : ByteArray) (p : Nat) (hp : p ≤ s.size) : en p (rest s p) = s.size := by
  have h1 := en_le s (rest s p) [] p hp (by simp)
  have h2 := rest_en s (rest s p) [] p (by simp)
  rcases Nat.lt_or_ge (en p (rest s p)) s.size with h3 | h3
  · rw [rest_at s _ h3] at h2; cases h2
  · omega

/-- Valid runes at a text's begin are there in each text that has the same bytes there. -/
theorem rest_agree (s x : ByteArray) : ∀ (A l : List Rn) (p : Nat), rest s p = A ++ l → (∀ r ∈ A, okR r) → en p A ≤ x.size → (∀ i, p ≤ i → i < en p A → x.get! i = s.get! i) → rest x p = A ++ rest x (en p A)
  | [], _, _, _, _, _, _ => rfl
  | r :: A, l, p, h, hg, hx, hb => by
    rcases Nat.lt_or_ge p s.size with h1 | h1
    · rw [rest_at s p h1] at h
      obtain ⟨h2, h3⟩ := List.cons.inj h
      subst h2
      have hw := wd_pos s p
      have hge := en_ge A (p + wd s p)
      have hen : en p ((p, wd s p, rn s p) :: A) = en (p + wd s p) A := rfl
      rw [hen] at hx hb
      obtain ⟨k1, k2⟩ := decode_local s x p p (hg _ (by simp)) (by omega) (fun i hi => hb (p + i) (by omega) (by omega))
      have ih := rest_agree s x A l _ h3 (fun r hr => hg r (by simp [hr])) hx (fun i h4 h5 => hb i (by omega) h5)
      rw [rest_at x p (by omega), k1, k2, ih, hen]
      rfl
    · rw [rest_end s p (by omega)] at h; cases h

/-- A valid rune's bytes are read as one rune wherever they stand. -/
def Chunk (c : List UInt8) : Prop := c ≠ [] ∧ ∀ (t : ByteArray) (q : Nat), (t.data.toList.drop q).take c.length = c → wd t q = c.length
theorem chunk_of (s : ByteArray) (p : Nat) (hp : p < s.size) (hg : okR (p, wd s p, rn s p)) : Chunk (rb s (p, wd s p, rn s p)) := by
  have hw := wd_pos s p
  have hl := wd_le s p hp
  have hsz : ∀ x : ByteArray, x.data.toList.length = x.size := fun x => Array.length_toList
  have hlen : (rb s (p, wd s p, rn s p)).length = wd s p := by rw [rb_eq, List.length_take, List.length_drop, hsz]; simp only; omega
  refine ⟨fun h => by rw [h] at hlen; simp at hlen; omega, fun t q h => ?_⟩
  rw [hlen] at h ⊢
  have hlt : q + wd s p ≤ t.size := by
    have h1 := congrArg List.length h
    rw [hlen, List.length_take, List.length_drop, hsz] at h1
    omega
  refine (decode_local s t p q hg hlt (fun i hi => ?_)).1
  rw [rb_eq] at h
  simp only at h
  have h1 := congrArg (fun l => l.getD i 0) h
  simp only [List.getD, List.getElem?_take_of_lt hi, List.getElem?_drop] at h1
  rw [get_data, get_data]
  exact h1

theorem chunks_rest (t : ByteArray) : ∀ (cs : List (List UInt8)) (q : Nat), (∀ c ∈ cs, Chunk c) → t.data.toList.drop q = cs.flatten → (rest t q).map (rb t) = cs
  | [], q, _, h => by
    have : ¬ q < t.size := fun h1 => by
      have h2 := congrArg List.length h
      rw [List.length_drop] at h2
      have : t.data.toList.length = t.size := Array.length_toList
      simp at h2
      have h3 : t.data.size = t.size := rfl
      omega
    rw [rest_end t q this]; rfl
  | c :: cs, q, hc, h => by
    rw [List.flatten_cons] at h
    obtain ⟨hne, hch⟩ := hc c (by simp)
    have ht : (t.data.toList.drop q).take c.length = c := by rw [h]; exact List.take_left
    have hw := hch t q ht
    have hcl : 0 < c.length := List.length_pos_iff.2 hne
    have hq : q < t.size := by
      rcases Nat.lt_or_ge q t.size with h1 | h1
      · exact h1
      · have h2 : t.data.toList.drop q = [] := List.drop_eq_nil_of_le (by rw [Array.length_toList]; exact h1)
        rw [h2] at ht
        simp at ht
        exact absurd ht hne
    have ih := chunks_rest t cs (q + c.length) (fun d hd => hc d (by simp [hd])) (by rw [← List.drop_drop, h]; exact List.drop_left)
    rw [rest_at t q hq, List.map_cons, hw, ih, rb_eq]
    simp only
    rw [ht]

theorem bytesOf_rev (s : ByteArray) (l : List Rn) : bytesOf s l.reverse = (l.map (rb s)).reverse.flatten := by
  rw [bytesOf, List.flatMap_def, List.map_reverse]

/-- A valid text turned twice is the text. -/
theorem turn_twice (s : ByteArray) (hg : ∀ r ∈ rest s 0, okR r) : bytesOf ⟨(bytesOf s (rest s 0).reverse).toArray⟩ (rest ⟨(bytesOf s (rest s 0).reverse).toArray⟩ 0).reverse = s.data.toList := by
  have hch : ∀ c ∈ ((rest s 0).map (rb s)).reverse, Chunk c := by
    intro c hc
    rw [List.mem_reverse, List.mem_map] at hc
    obtain ⟨r, hr, rfl⟩ := hc
    obtain ⟨k, hk, rfl⟩ := List.getElem_of_mem hr
    have h1 := hg _ hr
    rw [get_pos s k hk] at h1 ⊢
    exact chunk_of s _ (pos_lt s k hk) h1
  have h2 := chunks_rest ⟨(bytesOf s (rest s 0).reverse).toArray⟩ _ 0 hch (by rw [List.drop_zero, ← bytesOf_rev])
  rw [bytesOf_rev, h2, List.reverse_reverse, ← List.flatMap_def]
  exact (bytes_rest s 0).trans (List.drop_zero)

end Go.Proofs.Ytbgbhogcjaodkaa

/- Plain facts on valid texts (no program in it): inner bytes, going on and back rune by rune. -/
namespace Go.Proofs.Ytbgbhogcjaodkaa

theorem decodeN_in (n b0 b1 b2 b3 : Nat) (h0 : b0 < 256) (h1 : b1 < 256) (h2 : b2 < 256) (h3 : b3 < 256) (hok : ¬ ((Lib.decodeN n b0 b1 b2 b3).1 = 65533 ∧ (Lib.decodeN n b0 b1 b2 b3).2 = 1)) :
    (b0 < 128 ∨ 192 ≤ b0) ∧ (2 ≤ (Lib.decodeN n b0 b1 b2 b3).2 → 128 ≤ b1 ∧ b1 ≤ 191) ∧ (3 ≤ (Lib.decodeN n b0 b1 b2 b3).2 → 128 ≤ b2 ∧ b2 ≤ 191) ∧ (4 ≤ (Lib.decodeN n b0 b1 b2 b3).2 → 128 ≤ b3 ∧ b3 ≤ 191) ∧ (Lib.decodeN n b0 b1 b2 b3).2 ≤ 4 := by
  unfold Lib.decodeN at hok ⊢
  repeat' split
  all_goals (simp_all <;> omega)
/-- A good rune's first byte isn't inner, all others are. -/
theorem rune_in (s : ByteArray) (p : Nat) (hok : okR (p, wd s p, rn s p)) : ((s.get! p).toNat < 128 ∨ 192 ≤ (s.get! p).toNat) ∧ ∀ q, p < q → q < p + wd s p → 128 ≤ (s.get! q).toNat ∧ (s.get! q).toNat ≤ 191 := by
  unfold okR at hok
  simp only [rn, wd] at hok ⊢
  rw [Lib.decode_at] at hok ⊢
  obtain ⟨h1, h2, h3, h4, h5⟩ := decodeN_in (s.size - p) (s.get! p).toNat (s.get! (p + 1)).toNat (s.get! (p + 2)).toNat (s.get! (p + 3)).toNat (byte_lt s p) (byte_lt s (p + 1)) (byte_lt s (p + 2)) (byte_lt s (p + 3)) hok
  refine ⟨h1, fun q hq hq' => ?_⟩
  rcases Nat.lt_or_ge q (p + 2) with b | b
  · obtain rfl : q = p + 1 := by omega
    exact h2 (by omega)
  · rcases Nat.lt_or_ge q (p + 3) with c | c
    · obtain rfl : q = p + 2 := by omega
      exact h3 (by omega)
    · obtain rfl : q = p + 3 := by omega
      exact h4 (by omega)
theorem inn_first {s : ByteArray} {p : Nat} (hok : okR (p, wd s p, rn s p)) : inn s (p + 1) = false := by
  unfold inn
  have := (rune_in s p hok).1
  rw [decide_eq_false]
  simp only [Nat.add_sub_cancel]
  omega
theorem inn_end {s : ByteArray} : inn s (s.size + 1) = false := by
  unfold inn; rw [decide_eq_false]; omega
theorem inn_mid {s : ByteArray} {p q : Nat} (hp : p < s.size) (hok : okR (p, wd s p, rn s p)) (h1 : p < q) (h2 : q < p + wd s p) : inn s (q + 1) = true := by
  unfold inn
  have := (rune_in s p hok).2 q h1 h2
  have := wd_le s p hp
  rw [decide_eq_true]
  simp only [Nat.add_sub_cancel]
  omega
theorem on_run {s : ByteArray} {e : Nat} (he : inn s (e + 1) = false) : ∀ k q, q + k = e → (∀ i, q ≤ i → i < e → inn s (i + 1) = true) → on s (q + 1) = e + 1
  | 0, q, h, _ => by
    obtain rfl : q = e := by omega
    exact on_no he
  | k + 1, q, h, hi => by
    rw [on_yes (hi q (Nat.le_refl _) (by omega))]
    exact on_run he k (q + 1) (by omega) (fun i h1 h2 => hi i (by omega) h2)
theorem on_rune {s : ByteArray} {p : Nat} (hp : p < s.size) (hok : okR (p, wd s p, rn s p)) (he : inn s (p + wd s p + 1) = false) : on s (p + 1 + 1) = p + wd s p + 1 := by
  have := wd_pos s p
  exact on_run he (wd s p - 1) (p + 1) (by omega) (fun i h1 h2 => inn_mid hp hok (by omega) h2)
theorem bk_run {s : ByteArray} {p : Nat} (hf : inn s (p + 1) = false) : ∀ k, (∀ i, p < i → i < p + k → inn s (i + 1) = true) → 1 ≤ k → bk s (p + k) = p + 1
  | 0, _, h => by omega
  | 1, _, _ => by
    cases p with
    | zero => rw [bk, if_neg (by omega)]
    | succ q => rw [bk, if_neg (by rw [hf]; simp)]
  | k + 2, hi, _ => by
    rw [show p + (k + 2) = (p + (k + 1)) + 1 by omega, bk, if_pos ⟨by omega, hi (p + (k + 1)) (by omega) (by omega)⟩]
    exact bk_run hf (k + 1) (fun i h1 h2 => hi i h1 (by omega)) (by omega)
theorem bk_rune {s : ByteArray} {p : Nat} (hp : p < s.size) (hok : okR (p, wd s p, rn s p)) : bk s (p + wd s p) = p + 1 :=
  bk_run (inn_first hok) (wd s p) (fun _ h1 h2 => inn_mid hp hok h1 h2) (wd_pos s p)
/-- Every rune from here on is good. -/
def Good (s : ByteArray) (p : Nat) : Prop := ∀ r ∈ rest s p, okR r
theorem Good.at {s : ByteArray} {p : Nat} (h : Good s p) (hp : p < s.size) : okR (p, wd s p, rn s p) ∧ Good s (p + wd s p) := by
  unfold Good at h
  rw [rest_at s p hp] at h
  exact ⟨h _ (List.mem_cons_self ..), fun r hr => h r (List.mem_cons_of_mem _ hr)⟩
theorem Good.first {s : ByteArray} {p : Nat} (h : Good s p) (hp : p ≤ s.size) : inn s (p + 1) = false := by
  rcases Nat.lt_or_ge p s.size with a | a
  · exact inn_first (h.at a).1
  · obtain rfl : p = s.size := by omega
    exact inn_end
theorem fwd_good {s : ByteArray} : ∀ (l : List Rn) (p n : Nat), rest s p = l → p ≤ s.size → Good s p → fwd s n (p + 1) = if n ≤ l.length then (0, en p (l.take n) + 1) else (n - l.length, s.size + 1)
  | [], p, n, hl, hp, hg => by
    have hps : ¬ p < s.size := fun q => by rw [rest_at s p q] at hl; cases hl
    obtain rfl : p = s.size := by omega
    cases n with
    | zero => simp [fwd, en]
    | succ n => rw [fwd_stop (by omega), if_neg (by simp)]; simp
  | r :: l, p, n, hl, hp, hg => by
    have hps : p < s.size := Nat.lt_of_not_le fun q => by rw [rest_end s p (by omega)] at hl; cases hl
    rw [rest_at s p hps] at hl
    injection hl with hr hl
    subst hr
    have hw := wd_le s p hps
    obtain ⟨ho, hg2⟩ := hg.at hps
    cases n with
    | zero => simp [fwd, en]
    | succ n =>
      rw [fwd_step (by omega), on_rune hps ho (hg2.first hw), fwd_good l (p + wd s p) n hl hw hg2]
      by_cases h : n ≤ l.length
      · rw [if_pos h, if_pos (by simp; omega)]; simp [en]
      · rw [if_neg h, if_neg (by simp; omega)]; simp
theorem en_app : ∀ (A B : List Rn) (p : Nat), en p (A ++ B) = en (en p A) B
  | [], _, _ => rfl
  | r :: A, B, p => en_app A B (p + r.2.1)
theorem bwd_good {s : ByteArray} (hg : Good s 0) : ∀ (m : Nat) (A B : List Rn) (n : Nat), A.length = m → rest s 0 = A ++ B → bwd s n (en 0 A + 1) = if n ≤ m then (0, en 0 (A.take (m - n)) + 1) else (n - m, 1)
  | 0, A, B, n, hm, h => by
    obtain rfl : A = [] := List.eq_nil_of_length_eq_zero hm
    cases n with
    | zero => simp [bwd, en]
    | succ n => rw [bwd_stop (by simp [en]), if_neg (by omega)]; simp [en]
  | m + 1, A, B, n, hm, h => by
    obtain ⟨A', r, rfl⟩ : ∃ A' r, A = A' ++ [r] := ⟨A.dropLast, A.getLast (by intro q; rw [q] at hm; simp at hm), (List.dropLast_concat_getLast _).symm⟩
    have hm' : A'.length = m := by simpa using hm
    have h' : rest s 0 = A' ++ r :: B := by rw [h]; simp
    have hr := rest_en s A' (r :: B) 0 h'
    have hq : en 0 A' < s.size := Nat.lt_of_not_le fun q => by rw [rest_end s _ (by omega)] at hr; cases hr
    rw [rest_at s _ hq] at hr
    have hr1 := (List.cons.inj hr).1
    have hok : okR r := hg r (by rw [h']; simp)
    cases n with
    | zero => rw [if_pos (Nat.zero_le _), List.take_of_length_le (by omega)]; rfl
    | succ n =>
      have e : en 0 (A' ++ [r]) = en 0 A' + wd s (en 0 A') := by rw [en_app, hr1]; rfl
      have hw := wd_pos s (en 0 A')
      rw [e, bwd_step (by omega), show en 0 A' + wd s (en 0 A') + 1 - 1 = en 0 A' + wd s (en 0 A') by omega, bk_rune hq (hr1 ▸ hok), bwd_good hg m A' (r :: B) n hm' h']
      by_cases hn : n ≤ m
      · rw [if_pos hn, if_pos (by omega), List.take_append_of_le_length (by omega), show m + 1 - (n + 1) = m - n by omega]
      · rw [if_neg hn, if_neg (by omega), show n + 1 - (m + 1) = n - m by omega]
theorem get_cut (s : ByteArray) (k i : Nat) (h : i < k) : (s.extract 0 k).get! i = s.get! i := by
  rw [get_data, get_data]
  simp [ByteArray.data_extract, List.getD, h]
theorem nobad_good {s : ByteArray} (h : badOf (rest s 0) < 0) : Good s 0 := by
  intro r hr
  unfold badOf at h
  cases hf : (rest s 0).find? isBad with
  | some x =>
    rw [hf] at h
    have h' : (x.1 : Int) < 0 := h
    omega
  | none =>
    have := List.find?_eq_none.1 hf r hr
    unfold isBad at this
    unfold okR
    simpa using this
theorem good_bad {s : ByteArray} {p : Nat} (h : Good s p) : badOf (rest s p) < 0 := by
  unfold badOf
  cases hf : (rest s p).find? isBad with
  | none => simp
  | some x =>
    have h1 := List.find?_some hf
    have h2 := h x (List.mem_of_find?_eq_some hf)
    unfold isBad at h1
    unfold okR at h2
    simp at h1
    exact absurd h1 h2
theorem good_cut {s : ByteArray} {k : Nat} (h : badOf (rest s 0) = (k : Int)) : Good (s.extract 0 k) 0 ∧ k ≤ s.size := by
  unfold badOf at h
  cases hf : (rest s 0).find? isBad with
  | none =>
    rw [hf] at h
    have h' : (-1 : Int) = (k : Int) := h
    omega
  | some r =>
    rw [hf] at h
    have hk : r.1 = k := by
      have h' : (r.1 : Int) = (k : Int) := h
      omega
    obtain ⟨_, A, B, hAB, hA⟩ := List.find?_eq_some_iff_append.1 hf
    have he := en_at s A B r 0 hAB
    have hks := en_le s A (r :: B) 0 (Nat.zero_le _) hAB
    have hx : (s.extract 0 k).size = k := by simp [ByteArray.size_extract]; omega
    have hok : ∀ a ∈ A, okR a := fun a ha => by
      have := hA a ha
      unfold isBad at this
      unfold okR
      simp at this
      exact fun q => this.elim (fun z => z q.1) (fun z => z q.2)
    have hr := rest_agree s (s.extract 0 k) A (r :: B) 0 hAB hok (by omega) (fun i _ hi => get_cut s k i (by omega))
    rw [rest_end (s.extract 0 k) (en 0 A) (by omega), List.append_nil] at hr
    exact ⟨fun a ha => hok a (by rw [hr] at ha; exact ha), by omega⟩
end Go.Proofs.Ytbgbhogcjaodkaa
