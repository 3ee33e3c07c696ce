/- Plain facts on the runes of a text (no program in it): how wide a rune is by its code point; the list of a text's runes. -/
import Derived.Lib.DecodeN
import Derived.Lib.IndexBytes
namespace Go.Proofs.Ytoecfpedpibfiab

def wd (s : ByteArray) (p : Nat) : Nat := (Utf8.decode s p).2
def rn (s : ByteArray) (p : Nat) : Nat := (Utf8.decode s p).1

theorem byte_lt (s : ByteArray) (i : Nat) : (s.get! i).toNat < 256 := (s.get! i).toNat_lt

/-- All that the width of a rune hangs on. -/
theorem decodeN_shape (n b0 b1 b2 b3 : Nat) (h0 : b0 < 256) (h1 : b1 < 256) :
    ((Lib.decodeN n b0 b1 b2 b3).1 < 128 → (Lib.decodeN n b0 b1 b2 b3).2 = 1) ∧
    (128 ≤ (Lib.decodeN n b0 b1 b2 b3).1 → (Lib.decodeN n b0 b1 b2 b3).1 < 2048 → (Lib.decodeN n b0 b1 b2 b3).2 = 2) ∧
    (2048 ≤ (Lib.decodeN n b0 b1 b2 b3).1 → (Lib.decodeN n b0 b1 b2 b3).1 < 65536 → (Lib.decodeN n b0 b1 b2 b3).1 ≠ 65533 → (Lib.decodeN n b0 b1 b2 b3).2 = 3) ∧
    (65536 ≤ (Lib.decodeN n b0 b1 b2 b3).1 → (Lib.decodeN n b0 b1 b2 b3).2 = 4) ∧
    ((Lib.decodeN n b0 b1 b2 b3).1 = 65533 → ((Lib.decodeN n b0 b1 b2 b3).2 = 3 ∧ 3 ≤ n ∧ b0 = 239 ∧ b1 = 191 ∧ b2 = 189) ∨ ((Lib.decodeN n b0 b1 b2 b3).2 = 1 ∧ ¬ (3 ≤ n ∧ b0 = 239 ∧ b1 = 191 ∧ b2 = 189))) ∧
    (Lib.decodeN n b0 b1 b2 b3).1 ≤ 1114111 ∧ 1 ≤ (Lib.decodeN n b0 b1 b2 b3).2 ∧ ((Lib.decodeN n b0 b1 b2 b3).2 ≤ n ∨ n = 0) := by
  unfold Lib.decodeN
  repeat' split
  all_goals (refine ⟨?_, ?_, ?_, ?_, ?_, ?_, ?_, ?_⟩ <;> simp only <;> (try intros) <;> first | omega | trivial | (simp; omega))

theorem shape_at (s : ByteArray) (p : Nat) :
    (rn s p < 128 → wd s p = 1) ∧ (128 ≤ rn s p → rn s p < 2048 → wd s p = 2) ∧ (2048 ≤ rn s p → rn s p < 65536 → rn s p ≠ 65533 → wd s p = 3) ∧ (65536 ≤ rn s p → wd s p = 4) ∧
    (rn s p = 65533 → (wd s p = 3 ∧ 3 ≤ s.size - p ∧ (s.get! p).toNat = 239 ∧ (s.get! (p + 1)).toNat = 191 ∧ (s.get! (p + 2)).toNat = 189) ∨
      (wd s p = 1 ∧ ¬ (3 ≤ s.size - p ∧ (s.get! p).toNat = 239 ∧ (s.get! (p + 1)).toNat = 191 ∧ (s.get! (p + 2)).toNat = 189))) ∧
    rn s p ≤ 1114111 ∧ 1 ≤ wd s p ∧ (wd s p ≤ s.size - p ∨ s.size - p = 0) := by
  unfold rn wd
  rw [Lib.decode_at]
  exact decodeN_shape _ _ _ _ _ (byte_lt s p) (byte_lt s (p + 1))

theorem wd_pos (s : ByteArray) (p : Nat) : 1 ≤ wd s p := (shape_at s p).2.2.2.2.2.2.1
theorem wd_le (s : ByteArray) (p : Nat) (h : p < s.size) : p + wd s p ≤ s.size := by have := (shape_at s p).2.2.2.2.2.2.2; omega
theorem rn_le (s : ByteArray) (p : Nat) : rn s p ≤ 1114111 := (shape_at s p).2.2.2.2.2.1

/-- A rune of a text: where it begins, how many bytes it has, its code point; the runes from a byte on. -/
abbrev Rn := Nat × Nat × Nat
def rest (s : ByteArray) (p : Nat) : List Rn := if _h : p < s.size then (p, wd s p, rn s p) :: rest s (p + wd s p) else []
termination_by s.size - p
decreasing_by have := wd_pos s p; omega

theorem rest_at (s : ByteArray) (p : Nat) (h : p < s.size) : rest s p = (p, wd s p, rn s p) :: rest s (p + wd s p) := by rw [rest]; simp [h]
theorem rest_end (s : ByteArray) (p : Nat) (h : ¬ p < s.size) : rest s p = [] := by rw [rest]; simp [h]

/-- Where a going through stops: behind the first rune at which it is told to, else at the end. -/
def runTo (go : List Rn → Bool) : List Rn → List Rn → List Rn
  | done, [] => done
  | done, r :: l => if go (done ++ [r]) then runTo go (done ++ [r]) l else done ++ [r]

theorem get_data (s : ByteArray) (i : Nat) : s.get! i = s.data.toList.getD i 0 := by
  obtain ⟨⟨l⟩⟩ := s
  simp [ByteArray.get!, getElem!_def, List.getD]
  cases l[i]? <;> rfl

theorem prefix_iff (s : ByteArray) (p : Nat) : ([239, 191, 189] : List UInt8).isPrefixOf (s.data.toList.drop p) = true ↔ (3 ≤ s.size - p ∧ (s.get! p).toNat = 239 ∧ (s.get! (p + 1)).toNat = 191 ∧ (s.get! (p + 2)).toNat = 189) := by
  have hsz : s.size - p = (s.data.toList.drop p).length := by simp
  have e0 : s.get! p = (s.data.toList.drop p).getD 0 0 := by rw [get_data]; simp [List.getD, List.getElem?_drop]
  have e1 : s.get! (p + 1) = (s.data.toList.drop p).getD 1 0 := by rw [get_data]; simp [List.getD, List.getElem?_drop]
  have e2 : s.get! (p + 2) = (s.data.toList.drop p).getD 2 0 := by rw [get_data]; simp [List.getD, List.getElem?_drop]
  rw [hsz, e0, e1, e2]
  generalize s.data.toList.drop p = l
  have inj : ∀ (x : UInt8) (n : Nat), n < 256 → (x.toNat = n ↔ UInt8.ofNat n = x) := fun x n hn => ⟨fun h => by apply UInt8.toNat_inj.1; simp [h]; omega, fun h => by subst h; simp; omega⟩
  match l with
  | [] => simp
  | [a] => simp
  | [a, b] => simp
  | a :: b :: c :: t =>
    simp only [List.isPrefixOf, Bool.and_true, Bool.and_eq_true, beq_iff_eq, List.length_cons, List.getD_cons_zero, List.getD_cons_succ]
    rw [inj a 239 (by omega), inj b 191 (by omega), inj c 189 (by omega)]
    constructor
    · rintro ⟨h0, h1, h2⟩; exact ⟨by omega, h0, h1, h2⟩
    · rintro ⟨_, h0, h1, h2⟩; exact ⟨h0, h1, h2⟩

end Go.Proofs.Ytoecfpedpibfiab
