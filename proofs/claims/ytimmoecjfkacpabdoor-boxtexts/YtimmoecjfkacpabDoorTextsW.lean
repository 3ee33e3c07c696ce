/- The law BoxTexts: the cases joined. -/
import Derived.Test.YtimmoecjfkacpabDoorTextsN0
import Derived.Test.YtimmoecjfkacpabDoorTextsN2
import Derived.Test.YtimmoecjfkacpabDoorTextsN3
import Derived.Test.YtimmoecjfkacpabDoorTextsQ0
import Derived.Test.YtimmoecjfkacpabDoorTextsQ2
import Derived.Test.YtimmoecjfkacpabDoorTextsQ3
import Derived.Test.YtimmoecjfkacpabDoorTextsD0
import Derived.Test.YtimmoecjfkacpabDoorTextsD2
import Derived.Test.YtimmoecjfkacpabDoorTextsD3
namespace Go.Proofs.YtimmoecjfkacpabDoor
open Go.RowKit

theorem jn_kind (b : Bx) : b.jn = true ↔ (b.kind = 2 ∨ b.kind = 3) := by
  simp only [Bx.jn, Bool.or_eq_true, decide_eq_true_eq]
  constructor
  · intro h; rcases h with h | h
    · exact Or.inl h.symm
    · exact Or.inr h.symm
  · intro h; rcases h with h | h
    · exact Or.inl h.symm
    · exact Or.inr h.symm
theorem kind3 (b : Bx) (h : b.kind = 3) : ∃ s, b = .str s := by
  cases b with
  | str s => exact ⟨s, rfl⟩
  | _ => simp [Bx.kind] at h
theorem kind2 (b : Bx) (h : b.kind = 2) : ∃ n, b = .int n := by
  cases b with
  | int n => exact ⟨n, rfl⟩
  | _ => simp [Bx.kind] at h
theorem txt_of (b : Bx) (h : b.kind ≠ 3) : b.txt = ⟨#[]⟩ := by
  cases b with
  | str s => simp [Bx.kind] at h
  | _ => rfl
theorem join_e (a : Bx) (ha : a.ok) (h : a.jn = true) (w : World) (ht : Tab w) : Calls Tryd.prog 7 #[a.val, vl 3 0 ⟨#[]⟩] w fun e w' => e = .returned (.tuple #[vl 3 0 a.shw, .int .i64 0]) ∧ Below w.heap.size w w' := by
  have hs : a.shw.size + (Bx.str ⟨#[]⟩).shw.size ≤ 10000 := by
    have e0 : (Bx.str ⟨#[]⟩).shw.size = 0 := rfl
    rw [e0]
    rcases (jn_kind a).1 h with h2 | h3
    · obtain ⟨n, rfl⟩ := kind2 a h2
      have := itoaS_size n ha.1 ha.2
      show (itoaS n).size + 0 ≤ _
      omega
    · obtain ⟨s, rfl⟩ := kind3 a h3
      have : s.size ≤ 10000 := ha
      show s.size + 0 ≤ _
      omega
  have := join_fit a (.str ⟨#[]⟩) ha (by show (0 : Nat) ≤ _; omega) h (by simp [Bx.jn, Bx.kind]) hs w ht
  have e : a.shw ++ (Bx.str ⟨#[]⟩).shw = a.shw := by
    show a.shw ++ ByteArray.empty = a.shw
    simp
  rw [e] at this
  exact this
theorem lst_ne (s t : ByteArray) (h : s ≠ t) : (s.toList == t.toList) = false ∧ ¬ s.toList = t.toList := by
  have : ¬ s.toList = t.toList := fun e => h ((list_eq s t).1 e)
  exact ⟨by simpa using this, this⟩
theorem ib_ne (x y : Int) (h : ¬ x = y) : (x == y) = false := by simpa using h

set_option maxHeartbeats 600000 in
theorem texts_ok (a b : Bx) (ha : a.ok) (hb : b.ok) (w : World) (htab : Tab w) : Calls Tryd.prog 3 #[a.val, b.val] w fun e w' => e = .returned (.bool true) ∧ Below w.heap.size w w' := by
  have D1 := fun w ht => show_ok a ha w ht
  have D2 := fun w ht => show_ok b hb w ht
  by_cases hk : a.kind = b.kind
  · by_cases he : a.num = b.num ∧ a.txt = b.txt
    · have hv : b.val = a.val := by unfold Bx.val; rw [hk, he.1, he.2]
      rw [hv]
      by_cases h2 : a.kind = 2
      · have DJ := fun w ht => join_e a ha ((jn_kind a).2 (Or.inl h2)) w ht
        obtain ⟨x, rfl⟩ := kind2 a h2
        exact texts_Q2 x ⟨#[]⟩ _ D1 DJ w htab
      · by_cases h3 : a.kind = 3
        · obtain ⟨s, rfl⟩ := kind3 a h3
          exact texts_Q3 0 s D1 (fun w ht => join_e (.str s) ha ((jn_kind _).2 (Or.inr h3)) w ht) w htab
        · have hj : (a.jn && (Bx.str ⟨#[]⟩).jn) = false := by
            cases hh : a.jn
            · rfl
            · rcases (jn_kind a).1 hh with h | h
              · exact absurd h h2
              · exact absurd h h3
          exact texts_Q0 a.kind a.num a.txt a.shw D1 h2 h3 (ib_ne _ _ h2) (ib_ne _ _ h3) (fun w _ => join_not a (.str ⟨#[]⟩) ha (by show (0 : Nat) ≤ _; omega) hj w) w htab
    · have hs : a.shw ≠ b.shw := fun e => he ((shw_same a b hk).1 e)
      by_cases h2 : a.kind = 2
      · have DJ := fun w ht => join_e a ha ((jn_kind a).2 (Or.inl h2)) w ht
        obtain ⟨x, rfl⟩ := kind2 a h2
        obtain ⟨y, rfl⟩ := kind2 b (hk ▸ h2)
        have hn : ¬ x = y := fun e => he ⟨e, rfl⟩
        exact texts_D2 x ⟨#[]⟩ y ⟨#[]⟩ _ _ D1 D2 (lst_ne _ _ hs).1 hn (ib_ne _ _ hn) DJ w htab
      · by_cases h3 : a.kind = 3
        · obtain ⟨s, rfl⟩ := kind3 a h3
          obtain ⟨t, rfl⟩ := kind3 b (hk ▸ h3)
          exact texts_D3 s t D1 D2 (lst_ne _ _ hs).1 (lst_ne _ _ hs).2 (fun w ht => join_e (.str s) ha ((jn_kind _).2 (Or.inr h3)) w ht) w htab
        · have hj : (a.jn && (Bx.str ⟨#[]⟩).jn) = false := by
            cases hh : a.jn
            · rfl
            · rcases (jn_kind a).1 hh with h | h
              · exact absurd h h2
              · exact absurd h h3
          have hn : ¬ a.num = b.num := fun e => he ⟨e, by rw [txt_of a h3, txt_of b (fun h => h3 (hk.trans h))]⟩
          unfold Bx.val at D2 ⊢
          rw [← hk] at D2 ⊢
          exact texts_D0 a.kind a.num a.txt b.num b.txt a.shw b.shw D1 D2 (lst_ne _ _ hs).1 hn (ib_ne _ _ hn) h2 h3 (ib_ne _ _ h2) (ib_ne _ _ h3) (fun w _ => join_not a (.str ⟨#[]⟩) ha (by show (0 : Nat) ≤ _; omega) hj w) w htab
  · by_cases h2 : a.kind = 2
    · have DJ := fun w ht => join_e a ha ((jn_kind a).2 (Or.inl h2)) w ht
      obtain ⟨x, rfl⟩ := kind2 a h2
      exact texts_N2 b.kind x ⟨#[]⟩ b.num b.txt _ _ D1 D2 hk (ib_ne _ _ hk) DJ w htab
    · by_cases h3 : a.kind = 3
      · obtain ⟨s, rfl⟩ := kind3 a h3
        exact texts_N3 b.kind 0 s b.num b.txt b.shw D1 D2 hk (ib_ne _ _ hk) (fun w ht => join_e (.str s) ha ((jn_kind _).2 (Or.inr h3)) w ht) w htab
      · have hj : (a.jn && (Bx.str ⟨#[]⟩).jn) = false := by
          cases hh : a.jn
          · rfl
          · rcases (jn_kind a).1 hh with h | h
            · exact absurd h h2
            · exact absurd h h3
        exact texts_N0 b.kind a.kind a.num a.txt b.num b.txt a.shw b.shw D1 D2 hk (ib_ne _ _ hk) h2 h3 (ib_ne _ _ h2) (ib_ne _ _ h3) (fun w _ => join_not a (.str ⟨#[]⟩) ha (by show (0 : Nat) ≤ _; omega) hj w) w htab

theorem texts_walk (ka na : Int) (sa : ByteArray) (kb nb : Int) (sb : ByteArray) (w : World) (ha0 : -9223372036854775808 ≤ na) (ha1 : na ≤ 9223372036854775807) (hb0 : -9223372036854775808 ≤ nb) (hb1 : nb ≤ 9223372036854775807) (htab : Tab w) :
    Calls Tryd.prog 3 #[vl ka na sa, vl kb nb sb] w fun e w' => e = .returned (.bool true) ∧ Below w.heap.size w w' := by
  have R1 := rcheck_b ka na sa
  have R2 := rcheck_b kb nb sb
  cases hf : inF ka na sa
  · have e1 : chk ka na sa = 2 := by simp [chk, hf]
    rw [e1] at R1
    have D1 := fun w (_ : Tab w) => show_bad ka na sa hf w
    cases hg : inF kb nb sb
    · exact texts_r1 ka na sa kb nb sb D1 _ _ (fun w _ => show_bad kb nb sb hg w) R1 w htab
    · obtain ⟨b, hb, rfl, rfl, rfl⟩ := form_of kb nb sb hb0 hb1 hg
      exact texts_r1 ka na sa b.kind b.num b.txt D1 _ _ (fun w ht => show_ok b hb w ht) R1 w htab
  · have e1 : chk ka na sa = 0 := by simp [chk, hf]
    rw [e1] at R1
    obtain ⟨a, ha, rfl, rfl, rfl⟩ := form_of ka na sa ha0 ha1 hf
    cases hg : inF kb nb sb
    · have e2 : chk kb nb sb = 2 := by simp [chk, hg]
      rw [e2] at R2
      exact texts_r2 a.kind a.num a.txt kb nb sb _ (fun w ht => show_ok a ha w ht) (fun w _ => show_bad kb nb sb hg w) R1 R2 w htab
    · obtain ⟨b, hb, rfl, rfl, rfl⟩ := form_of kb nb sb hb0 hb1 hg
      exact texts_ok a b ha hb w htab

end Go.Proofs.YtimmoecjfkacpabDoor
