/- Plain facts on two texts put together (no program in it): behind a valid text another one's runes follow as they are, further on by its bytes. -/
import Derived.Test.YtoecfpedpibfiabLocal
import Derived.Test.YtoecfpedpibfiabCount
namespace Go.Proofs.Ytoecfpedpibfiab

theorem get_app_right (s t : ByteArray) (i : Nat) : (s ++ t).get! (s.size + i) = t.get! i := by
  rw [get_data, get_data, ByteArray.data_append, Array.toList_append, List.getD, List.getElem?_append_right (by rw [Array.length_toList]; exact Nat.le_add_right _ _)]
  rw [Array.length_toList]
  show (t.data.toList[s.size + i - s.size]?).getD 0 = _
  rw [Nat.add_sub_cancel_left]
  rfl
theorem get_app_left (s t : ByteArray) (i : Nat) (h : i < s.size) : (s ++ t).get! i = s.get! i := by
  rw [get_data, get_data, ByteArray.data_append, Array.toList_append, List.getD, List.getElem?_append_left (by rw [Array.length_toList]; exact h)]
  rfl
theorem size_app (s t : ByteArray) : (s ++ t).size = s.size + t.size := ByteArray.size_append

/-- A rune further on. -/
def shift (n : Nat) (r : Rn) : Rn := (r.1 + n, r.2.1, r.2.2)

theorem decode_app (s t : ByteArray) (q : Nat) : Utf8.decode (s ++ t) (s.size + q) = Utf8.decode t q := by
  rw [Lib.decode_at, Lib.decode_at, size_app, show s.size + t.size - (s.size + q) = t.size - q by omega, get_app_right]
  rw [show s.size + q + 1 = s.size + (q + 1) by omega, show s.size + q + 2 = s.size + (q + 2) by omega, show s.size + q + 3 = s.size + (q + 3) by omega]
  rw [get_app_right, get_app_right, get_app_right]

theorem rest_app (s t : ByteArray) (q : Nat) : rest (s ++ t) (s.size + q) = (rest t q).map (shift s.size) := by
  have hw : wd (s ++ t) (s.size + q) = wd t q := by unfold wd; rw [decode_app]
  have hr : rn (s ++ t) (s.size + q) = rn t q := by unfold rn; rw [decode_app]
  by_cases h : q < t.size
  · have ih := rest_app s t (q + wd t q)
    rw [rest_at t q h, rest_at (s ++ t) (s.size + q) (by rw [size_app]; omega), hw, hr, Nat.add_assoc, ih, List.map_cons]
    simp [shift, Nat.add_comm]
  · rw [rest_end t q h, rest_end (s ++ t) (s.size + q) (by rw [size_app]; omega)]; rfl
termination_by t.size - q
decreasing_by have := wd_pos t q; omega

/-- Behind a valid text. -/
theorem rest_join (s t : ByteArray) (hg : ∀ r ∈ rest s 0, okR r) : rest (s ++ t) 0 = rest s 0 ++ (rest t 0).map (shift s.size) := by
  have he := en_all s 0 (Nat.zero_le _)
  have h := rest_agree s (s ++ t) (rest s 0) [] 0 (by simp) hg (by rw [he, size_app]; omega) (fun i _ hi => get_app_left s t i (by rw [he] at hi; exact hi))
  rw [he] at h
  have h2 := rest_app s t 0
  rw [Nat.add_zero] at h2
  rw [h, h2]

theorem ok_of_bad (L : List Rn) (h : badOf L < 0) : ∀ r ∈ L, okR r := by
  intro r hr hbad
  have hb : isBad r = true := by unfold isBad; simp [hbad.1, hbad.2]
  unfold badOf at h
  cases hf : L.find? isBad with
  | none => exact absurd hb (by simpa using List.find?_eq_none.1 hf r hr)
  | some q => rw [hf] at h; simp only at h; omega

/-- What lies ahead of the first invalid byte is valid. -/
theorem head_ok (s : ByteArray) (k : Nat) (h : badOf (rest s 0) = k) : k < s.size ∧ ∀ r ∈ rest (s.extract 0 k) 0, okR r := by
  unfold badOf at h
  cases hf : (rest s 0).find? isBad with
  | none => rw [hf] at h; simp only at h; omega
  | some q =>
    rw [hf] at h
    simp only at h
    obtain ⟨_, A, l, hAl, hA⟩ := List.find?_eq_some_iff_append.1 hf
    have hq := en_at s A l q 0 hAl
    have hqk : q.1 = k := by omega
    have hks : k < s.size := by
      have h1 := rest_en s A (q :: l) 0 hAl
      rcases Nat.lt_or_ge (en 0 A) s.size with h2 | h2
      · omega
      · rw [rest_end s _ (by omega)] at h1; cases h1
    refine ⟨hks, ?_⟩
    have hok : ∀ r ∈ A, okR r := fun r hr hb => by
      have := hA r hr
      unfold isBad at this
      simp [hb.1, hb.2] at this
    have hxs : (s.extract 0 k).size = k := by simp [ByteArray.size_extract]; omega
    have hag := rest_agree s (s.extract 0 k) A (q :: l) 0 hAl hok (by rw [hxs]; omega) (fun i _ hi => by
      rw [get_data, get_data]
      have e : (s.extract 0 k).data.toList = s.data.toList.take k := by
        rw [ByteArray.data_extract, Array.toList_extract, List.extract_eq_take_drop, List.drop_zero, Nat.sub_zero]
      rw [e, List.getD, List.getElem?_take_of_lt (by omega)]
      rfl)
    have hend := rest_end (s.extract 0 k) (en 0 A) (by rw [hxs]; omega)
    rw [hend, List.append_nil] at hag
    rw [hag]
    exact hok

end Go.Proofs.Ytoecfpedpibfiab
