/- The law BoxPairs: the cases joined. -/
import Derived.Test.YtimmoecjfkacpaaDoorPairs
namespace Go.Proofs.YtimmoecjfkacpaaDoor
open Go.RowKit

theorem pairs_in (a b : Bx) (ha : a.ok) (hb : b.ok) (w : World) (htab : Tab w) : Calls Tryd.prog 5 #[vl a.kind a.num a.txt, vl b.kind b.num b.txt] w fun e w' => e = .returned (.bool true) ∧ Below w.heap.size w w' := by
  obtain ⟨K, M, S, E, D3, D5⟩ := join_pair a b ha hb
  have D1 := same_ok a b ha hb
  have D2 := order_ok a b ha hb
  have D4 := rorder_ok a b ha hb
  have D6 := both_form a b ha hb
  cases hs : a.same b
  · rw [hs] at D1
    have hne : ¬ (a.kind = b.kind ∧ a.num = b.num ∧ a.txt = b.txt) := of_decide_eq_false hs
    unfold Bx.val at *
    by_cases h1 : a.kind = b.kind
    · rw [← h1] at D1 D2 D3 D4 D5 D6 ⊢
      by_cases h2 : a.num = b.num
      · rw [← h2] at D1 D2 D3 D4 D5 D6 ⊢
        exact pairs_s _ _ _ _ _ _ _ _ _ _ D1 D2 D3 D4 D5 D6 (fun h3 => hne ⟨h1, h2, h3⟩) w htab
      · exact pairs_n _ _ _ _ _ _ _ _ _ _ _ D1 D2 D3 D4 D5 D6 h2 w htab
    · exact pairs_k _ _ _ _ _ _ _ _ _ _ _ _ D1 D2 D3 D4 D5 D6 h1 w htab
  · rw [hs] at D1
    obtain rfl := same_eq a b hs
    unfold Bx.val at *
    exact pairs_same _ _ _ _ _ _ _ _ _ D1 D2 D3 D4 D5 D6 w htab

theorem pairs_walk (ka na : Int) (sa : ByteArray) (kb nb : Int) (sb : ByteArray) (w : World) (ha0 : -9223372036854775808 ≤ na) (ha1 : na ≤ 9223372036854775807) (hb0 : -9223372036854775808 ≤ nb) (hb1 : nb ≤ 9223372036854775807) (htab : Tab w) : Calls Tryd.prog 5 #[vl ka na sa, vl kb nb sb] w fun e w' => e = .returned (.bool true) ∧ Below w.heap.size w w' := by
  cases hF : (inF ka na sa && inF kb nb sb)
  · have RB := rboth_any ka na sa kb nb sb
    have e : bothE ka na sa kb nb sb = 2 := by simp [bothE, hF]
    rw [e] at RB
    exact pairs_bad ka na sa kb nb sb (same_bad ka na sa kb nb sb ha0 ha1 hF) (order_bad ka na sa kb nb sb ha0 ha1 hF) (fun w _ => join_bad ka na sa kb nb sb ha0 ha1 hF w)
      (rorder_bad ka na sa kb nb sb RB) (rjoin_bad ka na sa kb nb sb RB) RB w htab
  · have hF2 : inF ka na sa = true ∧ inF kb nb sb = true := by simpa using hF
    obtain ⟨a, ha, rfl, rfl, rfl⟩ := form_of ka na sa ha0 ha1 hF2.1
    obtain ⟨b, hb, rfl, rfl, rfl⟩ := form_of kb nb sb hb0 hb1 hF2.2
    exact pairs_in a b ha hb w htab

end Go.Proofs.YtimmoecjfkacpaaDoor
