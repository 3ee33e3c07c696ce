/- The walk of RunesJoin, for every two texts. -/
import Derived.Test.YtoecfpedpibfiabJoin
import Derived.Test.YtoecfpedpibfiabJn
import Derived.Test.YtoecfpedpibfiabRlist
namespace Go.Proofs.Ytoecfpedpibfiab
open Go.RowKit

/-- What is behind a valid text, as a part. -/
theorem part_behind (s t : ByteArray) (hg : ∀ r ∈ rest s 0, okR r) : (⟨(bytesOf (s ++ t) (((rest (s ++ t) 0).take ((rest s 0).length + (rest t 0).length)).drop (rest s 0).length)).toArray⟩ : ByteArray) = t := by
  have hj := rest_join s t hg
  have hl : (rest (s ++ t) 0).length = (rest s 0).length + (rest t 0).length := by rw [hj]; simp
  rw [← hl, List.take_length]
  have hd : (rest (s ++ t) 0).drop (rest s 0).length = rest (s ++ t) s.size := by
    rw [hj, List.drop_left]
    exact (rest_app s t 0).symm
  rw [hd, bytes_rest, ByteArray.data_append, Array.toList_append]
  apply ByteArray.ext
  apply Array.ext'
  show List.drop s.size (s.data.toList ++ t.data.toList) = t.data.toList
  have : s.data.toList.length = s.size := Array.length_toList
  rw [← this, List.drop_left]

theorem join_walk (s0 t : ByteArray) (w : World) (hb : s0.size + t.size ≤ 1048576) : Calls Try.prog 3 #[.string s0, .string t] w fun e w' => e = .returned (.bool true) ∧ Below w.heap.size w w' := by
  have key : ∀ s : ByteArray, s.size ≤ s0.size → (∀ r ∈ rest s 0, okR r) →
      ((s ++ t).size ≤ 1048576) ∧ rest (s ++ t) 0 = rest s 0 ++ (rest t 0).map (fun r => (r.1 + s.size, r.2.1, r.2.2)) ∧ (rest (s ++ t) 0).length = (rest s 0).length + (rest t 0).length := by
    intro s hs hg
    have hj := rest_join s t hg
    exact ⟨by rw [size_app]; omega, hj, by rw [hj]; simp⟩
  have hB : ∀ r ∈ rest t 0, r.1 ≤ t.size := fun r hr => by
    obtain ⟨k, hk, rfl⟩ := List.getElem_of_mem hr
    rw [get_pos t k hk]
    exact pos_le t k
  have hlt := rest_len t 0
  have hc7 : ∀ s : ByteArray, (s ++ t).size ≤ 1048576 → (rest (s ++ t) 0).length = (rest s 0).length + (rest t 0).length → ∀ W, Calls Try.prog 7 #[.string (s ++ t)] W fun e W' => e = .returned (.int .i64 (((rest s 0).length : Int) + ((rest t 0).length : Int))) ∧ Below W.heap.size W W' := fun s h1 h2 W => by
    have := count_any (s ++ t) W (by omega)
    rw [h2, Int.natCast_add] at this
    exact this
  have hc8 : ∀ s : ByteArray, (s ++ t).size ≤ 1048576 → (∀ r ∈ rest s 0, okR r) → ∀ W, Calls Try.prog 8 #[.string (s ++ t), .int .i64 (rest s 0).length, .int .i64 (((rest s 0).length : Int) + ((rest t 0).length : Int))] W fun e W' => e = .returned (.string t) ∧ Below W.heap.size W W' := fun s h1 hg W => by
    have := part_any (s ++ t) (rest s 0).length (((rest s 0).length : Int) + ((rest t 0).length : Int)) W h1
    rw [show (((rest s 0).length : Int) + ((rest t 0).length : Int)).toNat = (rest s 0).length + (rest t 0).length by omega, Int.toNat_natCast, part_behind s t hg] at this
    exact this
  by_cases hbad : badOf (rest s0 0) < 0
  · have hg := ok_of_bad _ hbad
    obtain ⟨k1, k2, k3⟩ := key s0 (Nat.le_refl _) hg
    have hls := rest_len s0 0
    exact join_same s0 t (rest s0 0) (rest t 0) (rest (s0 ++ t) 0) (badOf (rest s0 0)) w hb (by omega) (by omega) k2 hB hbad (fun W => rbad_any s0 W (by omega)) (fun W => list_any s0 W (by omega)) (fun W => list_any t W (by omega))
      (fun W => by have := list_any (s0 ++ t) W k1; rw [k3] at this; exact this) (fun W => count_any s0 W (by omega)) (fun W => count_any t W (by omega)) (hc7 s0 k1 k3) (hc8 s0 k1 hg)
  · obtain ⟨k0, hk0⟩ : ∃ k0 : Nat, badOf (rest s0 0) = k0 := ⟨(badOf (rest s0 0)).toNat, by omega⟩
    obtain ⟨hlt0, hg⟩ := head_ok s0 k0 hk0
    have hxs : (s0.extract 0 k0).size = k0 := by simp [ByteArray.size_extract]; omega
    obtain ⟨k1, k2, k3⟩ := key (s0.extract 0 k0) (by omega) hg
    have hls := rest_len (s0.extract 0 k0) 0
    exact join_cut s0 (s0.extract 0 k0) t k0 (by omega) rfl (by omega) (rest (s0.extract 0 k0) 0) (rest t 0) (rest (s0.extract 0 k0 ++ t) 0) w (by omega) (by omega) (by omega) k2 hB (fun W => by have := rbad_any s0 W (by omega); rw [hk0] at this; exact this)
      (fun W => list_any _ W (by omega)) (fun W => list_any t W (by omega)) (fun W => by have := list_any (s0.extract 0 k0 ++ t) W k1; rw [k3] at this; exact this) (fun W => count_any _ W (by omega)) (fun W => count_any t W (by omega)) (hc7 _ k1 k3) (hc8 _ k1 hg)

#print axioms join_walk
end Go.Proofs.Ytoecfpedpibfiab
