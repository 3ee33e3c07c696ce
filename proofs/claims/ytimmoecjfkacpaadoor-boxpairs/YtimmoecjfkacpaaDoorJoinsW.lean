/- The law BoxJoins: the cases joined. -/
import Derived.Test.YtimmoecjfkacpaaDoorJoins
namespace Go.Proofs.YtimmoecjfkacpaaDoor
open Go.RowKit

theorem num_range (b : Bx) (h : b.ok) : -9223372036854775808 ≤ b.num ∧ b.num ≤ 9223372036854775807 := by
  rcases b with _ | (_ | _) | n | s | n | n | n
  · show (-9223372036854775808 : Int) ≤ 0 ∧ (0 : Int) ≤ _; omega
  · show (-9223372036854775808 : Int) ≤ 0 ∧ (0 : Int) ≤ _; omega
  · show (-9223372036854775808 : Int) ≤ 1 ∧ (1 : Int) ≤ _; omega
  · exact h
  · show (-9223372036854775808 : Int) ≤ 0 ∧ (0 : Int) ≤ _; omega
  all_goals
    have h1 := h.1
    have h2 := h.2
    show _ ≤ n ∧ n ≤ _
    omega
theorem jn_kind (b : Bx) : b.jn = true ↔ (b.kind = 2 ∨ b.kind = 3) := by
  simp only [Bx.jn, Bool.or_eq_true, decide_eq_true_eq]
  constructor
  · intro h; rcases h with h | h
    · exact Or.inl h.symm
    · exact Or.inr h.symm
  · intro h; rcases h with h | h
    · exact Or.inl h.symm
    · exact Or.inr h.symm
theorem joins_walk (ka na : Int) (sa : ByteArray) (kb nb : Int) (sb : ByteArray) (kc nc : Int) (sc : ByteArray) (w : World) (ha0 : -9223372036854775808 ≤ na) (ha1 : na ≤ 9223372036854775807) (hb0 : -9223372036854775808 ≤ nb) (hb1 : nb ≤ 9223372036854775807) (hc0 : -9223372036854775808 ≤ nc) (hc1 : nc ≤ 9223372036854775807) (htab : Tab w) : Calls Tryd.prog 7 #[vl ka na sa, vl kb nb sb, vl kc nc sc] w fun e w' => e = .returned (.bool true) ∧ Below w.heap.size w w' := by
  have RB := rboth_any ka na sa kb nb sb
  cases hF : (inF ka na sa && inF kb nb sb)
  · have e : bothE ka na sa kb nb sb = 2 := by simp [bothE, hF]
    rw [e] at RB
    exact joins_r2 ka na sa kb nb sb kc nc sc (fun w _ => join_bad ka na sa kb nb sb ha0 ha1 hF w) RB w htab
  · have e : bothE ka na sa kb nb sb = 0 := by simp [bothE, hF]
    rw [e] at RB
    have hF2 : inF ka na sa = true ∧ inF kb nb sb = true := by simpa using hF
    obtain ⟨a, ha, rfl, rfl, rfl⟩ := form_of ka na sa ha0 ha1 hF2.1
    obtain ⟨b, hb, rfl, rfl, rfl⟩ := form_of kb nb sb hb0 hb1 hF2.2
    cases hj : (a.jn && b.jn)
    · have D1 := fun w (_ : Tab w) => join_not a b ha hb hj w
      by_cases h1 : a.kind = 2 ∨ a.kind = 3
      · have h2 : ¬ (b.kind = 2 ∨ b.kind = 3) := fun h2 => by rw [(jn_kind a).2 h1, (jn_kind b).2 h2] at hj; cases hj
        rcases h1 with h1 | h1
        · exact joins_s82 a.kind a.num a.txt b.kind b.num b.txt kc nc sc (by intro w ht; have := D1 w ht; unfold Bx.val at this; rw [h1] at this; exact this) (by intro w; have := RB w; rw [h1] at this; exact this) (fun h => h2 (Or.inl h)) (fun h => h2 (Or.inr h)) h1 w htab
        · exact joins_s83 a.kind a.num a.txt b.kind b.num b.txt kc nc sc (by intro w ht; have := D1 w ht; unfold Bx.val at this; rw [h1] at this; exact this) (by intro w; have := RB w; rw [h1] at this; exact this) (fun h => h2 (Or.inl h)) (fun h => h2 (Or.inr h)) h1 w htab
      · exact joins_r8 a.kind a.num a.txt b.kind b.num b.txt kc nc sc D1 RB (fun h => h1 (Or.inl h)) (fun h => h1 (Or.inr h)) w htab
    · have hj2 : a.jn = true ∧ b.jn = true := by simpa using hj
      by_cases hs : a.shw.size + b.shw.size ≤ 10000
      · obtain ⟨K, S, E, D4, hE⟩ := join_c b hb kc nc sc hc0 hc1 (num_range b hb)
        have D1 := fun w ht => join_fit a b ha hb hj2.1 hj2.2 hs w ht
        have D2 := fun w ht => show_ok a ha w ht
        have D3 := fun w ht => show_ok b hb w ht
        rcases hE with hE | ⟨hE, _, c, hc, jc, rfl, rfl, rfl, hs2, rfl, rfl⟩
        · exact joins_no a.kind a.num a.txt b.kind b.num b.txt kc nc sc a.shw b.shw hs D1 D2 D3 K S E D4 hE w htab
        · obtain ⟨K', S', E', D5, D6⟩ := join_3 a b c ha hc hj2.1 jc hs hs2
          exact joins_yes a.kind a.num a.txt b.kind b.num b.txt c.kind c.num c.txt a.shw b.shw hs D1 D2 D3 3 _ E D4 hE K' S' E' D5 D6 w htab
      · have D1 := fun w ht => join_big a b ha hb hj2.1 hj2.2 (by omega) w ht
        rcases (jn_kind a).1 hj2.1 with h1 | h1 <;> rcases (jn_kind b).1 hj2.2 with h2 | h2
        · exact joins_b22 a.kind a.num a.txt b.kind b.num b.txt kc nc sc (by intro w ht; have := D1 w ht; unfold Bx.val at this; rw [h1, h2] at this; exact this) (by intro w; have := RB w; rw [h1, h2] at this; exact this) h1 h2 w htab
        · exact joins_b23 a.kind a.num a.txt b.kind b.num b.txt kc nc sc (by intro w ht; have := D1 w ht; unfold Bx.val at this; rw [h1, h2] at this; exact this) (by intro w; have := RB w; rw [h1, h2] at this; exact this) h1 h2 w htab
        · exact joins_b32 a.kind a.num a.txt b.kind b.num b.txt kc nc sc (by intro w ht; have := D1 w ht; unfold Bx.val at this; rw [h1, h2] at this; exact this) (by intro w; have := RB w; rw [h1, h2] at this; exact this) h1 h2 w htab
        · exact joins_b33 a.kind a.num a.txt b.kind b.num b.txt kc nc sc (by intro w ht; have := D1 w ht; unfold Bx.val at this; rw [h1, h2] at this; exact this) (by intro w; have := RB w; rw [h1, h2] at this; exact this) h1 h2 w htab

end Go.Proofs.YtimmoecjfkacpaaDoor
