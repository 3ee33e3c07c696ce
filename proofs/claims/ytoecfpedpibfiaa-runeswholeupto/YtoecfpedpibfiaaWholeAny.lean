/- The walk of RunesWhole, for every text and number. -/
import Derived.Test.YtoecfpedpibfiaaWhole
namespace Go.Proofs.Ytoecfpedpibfiaa
open Go.RowKit

theorem ok_of_bad (L : List Rn) (h : badOf L < 0) : ∀ r ∈ L, okR r := by
  intro r hr hbad
  have hb : isBad r = true := by unfold isBad; simp [hbad.1, hbad.2]
  unfold badOf at h
  cases hf : L.find? isBad with
  | none => exact absurd hb (by simpa using List.find?_eq_none.1 hf r hr)
  | some q => rw [hf] at h; simp only at h; omega

theorem mk_bytes (s : ByteArray) : (⟨s.data.toList.toArray⟩ : ByteArray) = s := rfl

theorem whole_walk (s : ByteArray) (k : Int) (w : World) (hs : s.size ≤ 1048576) : Calls Try.prog 6 #[.string s, .int .i64 k] w fun e w' => e = .returned (.bool true) ∧ Below w.heap.size w w' := by
  have hlen := rest_len s 0
  have hsz : s.data.toList.length = s.size := Array.length_toList
  have e1 : bytesOf s (((rest s 0).take k.toNat).drop (0 : Int).toNat) ++ bytesOf s (((rest s 0).take (s.size : Int).toNat).drop (max k 0).toNat) = s.data.toList := by
    rw [List.take_of_length_le (show (rest s 0).length ≤ (s.size : Int).toNat by omega), show (max k 0).toNat = k.toNat by omega]
    show bytesOf s (((rest s 0).take k.toNat).drop 0) ++ _ = _
    rw [List.drop_zero, ← bytesOf_append, List.take_append_drop, bytes_rest, List.drop_zero]
  refine whole_core s ⟨(bytesOf s (((rest s 0).take k.toNat).drop (0 : Int).toNat)).toArray⟩ ⟨(bytesOf s (((rest s 0).take (s.size : Int).toNat).drop (max k 0).toNat)).toArray⟩ k (badOf (rest s 0)) w hs (rest s 0) rfl
    (fun W => list_any s W hs) (fun W => count_any s W (by omega)) (fun W => bad_any s W (by omega)) (fun W => part_any s 0 k W hs) (fun W => part_any s (max k 0) s.size W hs) ?_ ?_ (fun hb => ?_)
  · apply ByteArray.ext
    rw [ByteArray.data_append]
    apply Array.ext'
    rw [Array.toList_append]
    exact e1
  · have := congrArg List.length e1
    rw [List.length_append, hsz] at this
    show (bytesOf s _).toArray.size + (bytesOf s _).toArray.size ≤ _
    simp only [List.size_toArray]
    omega
  · have hg := ok_of_bad (rest s 0) hb
    have hl0 : (bytesOf s (rest s 0)).length = s.size := by rw [bytes_rest, List.drop_zero]; exact hsz
    have hT : (⟨(bytesOf s (rest s 0).reverse).toArray⟩ : ByteArray).size ≤ 1048576 := by
      show (bytesOf s (rest s 0).reverse).toArray.size ≤ _
      rw [List.size_toArray, bytesOf_rev_len, hl0]
      exact hs
    refine ⟨_, fun W => turned_any s W hs, fun W => ?_⟩
    have := turned_any ⟨(bytesOf s (rest s 0).reverse).toArray⟩ W hT
    rw [turn_twice s hg, mk_bytes] at this
    exact this

#print axioms whole_walk
end Go.Proofs.Ytoecfpedpibfiaa
