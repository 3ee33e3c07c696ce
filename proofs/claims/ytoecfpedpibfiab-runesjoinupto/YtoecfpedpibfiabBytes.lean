/- Plain facts on the bytes of a text's runes (no program in it): where the k-th rune begins; the runes' bytes are the text's. -/
import Derived.Test.YtoecfpedpibfiabRunes
namespace Go.Proofs.Ytoecfpedpibfiab

/-- Where the k-th rune begins. -/
def pos (s : ByteArray) : Nat → Nat
  | 0 => 0
  | k + 1 => if pos s k < s.size then pos s k + wd s (pos s k) else pos s k

theorem pos_le (s : ByteArray) : ∀ k, pos s k ≤ s.size
  | 0 => Nat.zero_le _
  | k + 1 => by
    have := pos_le s k
    rw [pos]
    split
    · exact wd_le s _ (by assumption)
    · exact this

theorem drop_pos (s : ByteArray) : ∀ k, (rest s 0).drop k = rest s (pos s k)
  | 0 => rfl
  | k + 1 => by
    have ih := drop_pos s k
    rw [← List.drop_drop, ih, pos]
    split
    · rename_i h; rw [rest_at s _ h]; rfl
    · rename_i h; rw [rest_end s _ h]; rfl

theorem pos_lt (s : ByteArray) (k : Nat) (h : k < (rest s 0).length) : pos s k < s.size := by
  rcases Nat.lt_or_ge (pos s k) s.size with h1 | h1
  · exact h1
  · have h2 := drop_pos s k
    have h3 := rest_end s (pos s k) (by omega)
    have := List.drop_eq_nil_iff.1 (h2.trans h3)
    omega

theorem get_pos (s : ByteArray) (k : Nat) (h : k < (rest s 0).length) : (rest s 0)[k] = (pos s k, wd s (pos s k), rn s (pos s k)) := by
  have h1 := drop_pos s k
  rw [rest_at s _ (pos_lt s k h), List.drop_eq_getElem_cons h] at h1
  exact (List.cons.inj h1).1

theorem pos_succ (s : ByteArray) (k : Nat) (h : k < (rest s 0).length) : pos s (k + 1) = pos s k + wd s (pos s k) := by
  rw [pos, if_pos (pos_lt s k h)]

theorem pos_end (s : ByteArray) (k : Nat) (h : (rest s 0).length ≤ k) : pos s k = s.size := by
  have h1 := drop_pos s k
  rw [List.drop_eq_nil_of_le h] at h1
  rcases Nat.lt_or_ge (pos s k) s.size with h2 | h2
  · rw [rest_at s _ h2] at h1; cases h1
  · have := pos_le s k; omega

theorem pos_mono (s : ByteArray) (i j : Nat) (h : i ≤ j) : pos s i ≤ pos s j := by
  induction j with
  | zero => have : i = 0 := by omega
            subst this; exact Nat.le_refl _
  | succ j ih =>
    rcases Nat.lt_or_ge j i with h1 | h1
    · have : i = j + 1 := by omega
      subst this; exact Nat.le_refl _
    · have := ih h1
      rw [pos]
      split <;> omega

theorem mid_pos (s : ByteArray) (done : List Rn) (r : Rn) (l : List Rn) (h : rest s 0 = done ++ r :: l) : r = (pos s done.length, wd s (pos s done.length), rn s (pos s done.length)) ∧ pos s done.length < s.size := by
  have hk : done.length < (rest s 0).length := by rw [h]; simp
  have h1 := get_pos s done.length hk
  refine ⟨?_, pos_lt s _ hk⟩
  rw [← h1]
  simp [h]

/-- A rune's bytes; those of a list. -/
def rb (s : ByteArray) (r : Rn) : List UInt8 := (s.extract r.1 (r.1 + r.2.1)).data.toList
def bytesOf (s : ByteArray) (l : List Rn) : List UInt8 := l.flatMap (rb s)
theorem rb_eq (s : ByteArray) (r : Rn) : rb s r = (s.data.toList.drop r.1).take r.2.1 := by
  unfold rb
  simp [ByteArray.data_extract, Array.toList_extract]
theorem bytesOf_append (s : ByteArray) (a b : List Rn) : bytesOf s (a ++ b) = bytesOf s a ++ bytesOf s b := by simp [bytesOf]
theorem bytesOf_snoc (s : ByteArray) (a : List Rn) (r : Rn) : bytesOf s (a ++ [r]) = bytesOf s a ++ rb s r := by simp [bytesOf]

theorem bytes_rest (s : ByteArray) (p : Nat) : bytesOf s (rest s p) = s.data.toList.drop p := by
  by_cases h : p < s.size
  · have ih := bytes_rest s (p + wd s p)
    rw [rest_at s p h]
    show rb s _ ++ bytesOf s (rest s (p + wd s p)) = _
    rw [ih, rb_eq, ← List.drop_drop]
    exact List.take_append_drop _ _
  · rw [rest_end s p h]
    exact (List.drop_eq_nil_of_le (by rw [Array.length_toList]; exact Nat.le_of_not_lt h)).symm
termination_by s.size - p
decreasing_by have := wd_pos s p; omega

theorem bytes_drop (s : ByteArray) (k : Nat) : bytesOf s ((rest s 0).drop k) = s.data.toList.drop (pos s k) := by
  rw [drop_pos, bytes_rest]

theorem bytes_take (s : ByteArray) (k : Nat) : bytesOf s ((rest s 0).take k) = s.data.toList.take (pos s k) := by
  have h1 : bytesOf s ((rest s 0).take k) ++ bytesOf s ((rest s 0).drop k) = s.data.toList.take (pos s k) ++ s.data.toList.drop (pos s k) := by
    rw [← bytesOf_append, List.take_append_drop, List.take_append_drop, bytes_rest, List.drop_zero]
  exact List.append_inj_left' h1 (by rw [bytes_drop])

/-- The bytes of the runes from i on, below j. -/
theorem bytes_mid (s : ByteArray) (i j : Nat) (h : i ≤ j) : bytesOf s (((rest s 0).take j).drop i) = (s.data.toList.take (pos s j)).drop (pos s i) := by
  have h1 : bytesOf s (((rest s 0).take j).take i) ++ bytesOf s (((rest s 0).take j).drop i) = (s.data.toList.take (pos s j)).take (pos s i) ++ (s.data.toList.take (pos s j)).drop (pos s i) := by
    rw [← bytesOf_append, List.take_append_drop, List.take_append_drop, bytes_take]
  have h2 : bytesOf s (((rest s 0).take j).take i) = (s.data.toList.take (pos s j)).take (pos s i) := by
    rw [List.take_take, List.take_take, Nat.min_eq_left h, Nat.min_eq_left (pos_mono s i j h), bytes_take]
  rw [h2] at h1
  exact List.append_cancel_left h1

theorem bytes_none (s : ByteArray) (L : List Rn) (i j : Nat) (h : j ≤ i) : bytesOf s ((L.take j).drop i) = [] := by
  rw [List.drop_eq_nil_of_le (by rw [List.length_take]; omega)]
  rfl

theorem bytes_take_le (s : ByteArray) (l : List Rn) (k : Nat) : (bytesOf s (l.take k)).length ≤ (bytesOf s l).length := by
  have h := congrArg (fun x => (bytesOf s x).length) (List.take_append_drop k l)
  simp only [bytesOf_append, List.length_append] at h
  omega
theorem bytes_drop_le (s : ByteArray) (l : List Rn) (k : Nat) : (bytesOf s (l.drop k)).length ≤ (bytesOf s l).length := by
  have h := congrArg (fun x => (bytesOf s x).length) (List.take_append_drop k l)
  simp only [bytesOf_append, List.length_append] at h
  omega

/-- As many bytes at most as the text has. -/
theorem bytes_len (s : ByteArray) (done : List Rn) (r : Rn) (l : List Rn) (h : rest s 0 = done ++ r :: l) : (bytesOf s done).length + r.2.1 ≤ s.size ∧ (rb s r).length = r.2.1 := by
  obtain ⟨hr, hp⟩ := mid_pos s done r l h
  have hw := wd_le s _ hp
  have h1 := bytes_take s done.length
  rw [h, List.take_left] at h1
  have hsz : s.data.toList.length = s.size := Array.length_toList
  rw [h1, List.length_take, hsz, hr]
  refine ⟨by simp only; omega, ?_⟩
  rw [rb_eq, List.length_take, List.length_drop, hsz]
  simp only; omega

/-- One rune more, of those from i on, below j. -/
theorem mid_snoc_in (done : List Rn) (r : Rn) (i j : Nat) (h1 : i ≤ done.length) (h2 : done.length < j) : ((done ++ [r]).take j).drop i = (done.take j).drop i ++ [r] := by
  rw [List.take_of_length_le (by simp; omega), List.take_of_length_le (by omega), List.drop_append_of_le_length h1]
theorem mid_snoc_out (done : List Rn) (r : Rn) (i j : Nat) (h : ¬ (i ≤ done.length ∧ done.length < j)) : ((done ++ [r]).take j).drop i = (done.take j).drop i := by
  by_cases h2 : done.length < j
  · have h1 : done.length < i := by omega
    rw [List.drop_eq_nil_of_le (by rw [List.length_take]; simp; omega), List.drop_eq_nil_of_le (by rw [List.length_take]; omega)]
  · rw [List.take_append_of_le_length (by omega)]

/-- Stopping behind rune number j - 1 changes nothing of the runes below j. -/
theorem take_runTo (j : Int) (l : List Rn) : ∀ done, (runTo (fun d => decide ((d.length : Int) < j)) done l).take j.toNat = (done ++ l).take j.toNat := by
  induction l with
  | nil => intro done; simp [runTo]
  | cons r l ih =>
    intro done
    rw [runTo]
    by_cases h : ((done ++ [r]).length : Int) < j
    · rw [if_pos (decide_eq_true h), ih]; simp
    · rw [if_neg (by simpa using h)]
      have e : done ++ r :: l = (done ++ [r]) ++ l := by simp
      rw [e, List.take_append_of_le_length (l₁ := done ++ [r]) (by omega)]

end Go.Proofs.Ytoecfpedpibfiab
