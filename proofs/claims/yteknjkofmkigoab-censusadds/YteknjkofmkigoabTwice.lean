/- Does a number stand twice: the walk of twice, by the library's Clone and Sort. -/
import Derived.Test.YteknjkofmkigoabCnt
import Derived.Sort.OwnSortedInts
namespace Go.Proofs.Yteknjkofmkigoab
open Go.RowKit Go.Sort

def srt (l : List Int) : List Int := l.mergeSort fun x y => decide (x ≤ y)
theorem srt_len (l : List Int) : (srt l).length = l.length := by unfold srt; exact List.length_mergeSort l
theorem srt_perm (l : List Int) : (srt l).Perm l := List.mergeSort_perm l _
theorem srt_sorted (l : List Int) : (srt l).Pairwise (fun x y => x ≤ y) := by
  have := List.pairwise_mergeSort (le := fun x y : Int => decide (x ≤ y)) (fun a b c h1 h2 => by simp only [decide_eq_true_eq] at *; omega) (fun a b => by simp only [Bool.or_eq_true, decide_eq_true_eq]; omega) l
  exact this.imp fun {a b} h => by simpa using h
theorem getD_eq (l : List Int) (k : Nat) (h : k < l.length) : l.getD k 0 = l[k] := by rw [List.getD, List.getElem?_eq_getElem h]; rfl

theorem adj_dup (l : List Int) (k : Nat) (h1 : 1 ≤ k) (h2 : k < l.length) (h : (srt l).getD k 0 = (srt l).getD (k - 1) 0) : ¬ l.Nodup := by
  intro q
  rw [← (srt_perm l).nodup_iff] at q
  have hk : k < (srt l).length := by rw [srt_len]; exact h2
  rw [getD_eq _ _ hk, getD_eq _ _ (by omega)] at h
  have := (List.pairwise_iff_getElem.1 q) (k - 1) k (by omega) hk (by omega)
  exact this h.symm
theorem adj_nodup (l : List Int) (h : ∀ j, 1 ≤ j → j < l.length → ¬ (srt l).getD j 0 = (srt l).getD (j - 1) 0) : l.Nodup := by
  rw [← (srt_perm l).nodup_iff]
  have hs := List.pairwise_iff_getElem.1 (srt_sorted l)
  refine List.pairwise_iff_getElem.2 fun i j hi hj hij => ?_
  have hj2 : j < l.length := by rw [← srt_len]; exact hj
  have h1 := h j (by omega) hj2
  rw [getD_eq _ _ hj, getD_eq _ _ (by omega)] at h1
  have h2 : (srt l)[j - 1]'(by omega) ≤ (srt l)[j] := hs (j - 1) j (by omega) hj (by omega)
  have h3 : (srt l)[i] ≤ (srt l)[j - 1]'(by omega) := by
    by_cases hij1 : i = j - 1
    · subst hij1; exact Int.le_refl _
    · exact hs i (j - 1) hi (by omega) (by omega)
  intro e
  omega

/-- Sort of a list of the call's own. -/
theorem sort_own (l : List Int) (v : Value) (w : World) (B : Nat) (h : w.ownsRow B 3 1 v l.length (l.map (Value.int .i64))) (hlen : l.length ≤ 1000000) :
    Calls Try.prog 45 #[v] w fun e w' => e = .returned (.tuple #[]) ∧ w'.ownsRow B 3 1 v l.length ((srt l).map (Value.int .i64)) ∧ ∀ (N : Nat) (w0 : World), N ≤ B → Below N w0 w → Below N w0 w' := by
  by_cases hl : l = []
  · subst hl
    obtain ⟨a, c, rfl⟩ : ∃ a c, v = .slice a 0 c := by
      rcases h.2 with ⟨rfl, _⟩ | ⟨g, cap, cur, rfl, _⟩
      · exact ⟨_, _, rfl⟩
      · exact ⟨_, _, rfl⟩
    refine (Try.slices_Sort_int_none a c w).mono fun e w' ⟨he, hw⟩ => ?_
    subst hw
    exact ⟨he, by simpa [srt] using h, fun N w0 _ hb => hb⟩
  · rcases h.2 with ⟨_, h0⟩ | ⟨g, cap, cur, rfl, hbase, hb, h1, h2, h3, h4⟩
    · exact absurd (List.eq_nil_of_length_eq_zero h0) hl
    · have hg : g < w.heap.size := (Array.getElem?_eq_some_iff.1 hb).1
      refine (Try.slices_Sort_int g 0 cap l w (holds_of_blockI hb (by simpa using h4)) hg (by omega)).mono fun e w' ⟨he, n, os, hw⟩ => ?_
      subst hw
      refine ⟨he, ownsRow_sortedI (srt_len l) hbase hb h1 h2 h3, fun N w0 hN hbel => ?_⟩
      exact hbel.grown (grownBy_sortedI _) (by omega) (fun j hj => by cases hj; omega)

/-- Clone of a list. -/
theorem clone_any (l : List Int) (v : Value) (w : World) (h : Ints w.heap.size w v l) (hlen : l.length ≤ 1000000) :
    Calls Try.prog 44 #[v] w fun e w' => ∃ v', e = .returned v' ∧ w'.ownsRow w.heap.size 3 1 v' l.length (l.map (Value.int .i64)) ∧ Below w.heap.size w w' := by
  obtain ⟨a, cap, rfl, hcap, h⟩ := h
  by_cases hl : l = []
  · subst hl
    cases a with
    | none =>
      refine (Try.slices_Clone_int_nil _ _ w).mono fun e w' ⟨he, hw⟩ => ?_
      subst hw
      exact ⟨_, he, World.ownsRow_nil _ _ _ _, Below.refl _ _⟩
    | some a =>
      refine (Try.slices_Clone_int_zero a cap w).mono fun e w' ⟨v', he, ho, _, hb⟩ => ?_
      exact ⟨v', he, ho, hb⟩
  · obtain ⟨b, off, rfl, hb, hc⟩ := h hl
    refine (Try.slices_Clone_int b off l.length cap l w (Nat.le_refl _) (by omega) hc).mono fun e w' ⟨v', he, ho, _, hb⟩ => ?_
    rw [List.take_length] at ho
    exact ⟨v', he, ho, hb⟩

theorem ints_own {B : Nat} {w : World} {v : Value} {l : List Int} (h : w.ownsRow B 3 1 v l.length (l.map (Value.int .i64))) : Ints w.heap.size w v l := by
  have hcs := fun g => h.cells (g := g)
  rcases h.2 with ⟨rfl, hz⟩ | ⟨g, cap, cur, rfl, h2, h3, h4, h5, h6, h7⟩
  · exact ⟨none, 0, by rw [hz], by omega, fun hl => absurd (List.eq_nil_of_length_eq_zero hz) hl⟩
  · refine ⟨_, cap, rfl, h4, fun _ => ⟨g, 0, rfl, (Array.getElem?_eq_some_iff.1 h3).1, fun i hi => ?_⟩⟩
    have := hcs g rfl i (Value.int .i64 (l.getD i 0)) (by simp [List.getD, List.getElem?_eq_getElem hi])
    by_cases hp0 : i = 0
    · subst hp0; simpa [Addr.add] using this
    · simpa [Addr.add, hp0] using this

set_option maxHeartbeats 1000000 in
theorem twice_any (l : List Int) (v : Value) (w : World) (h : Ints w.heap.size w v l) (hlen : l.length ≤ 1000000) :
    Calls Try.prog 41 #[v] w fun e w' => e = .returned (.bool (decide (¬ l.Nodup))) ∧ Below w.heap.size w w' := by
  have C1 := clone_any l v w h hlen
  have C2 := fun v' w' h => sort_own l v' w' w.heap.size h hlen
  obtain ⟨a, cap, rfl, hcap, h⟩ := h
  have HA : Hid (∀ k, 1 ≤ k → k < l.length → (srt l).getD k 0 = (srt l).getD (k - 1) 0 → decide (¬ l.Nodup) = true) := fun k h1 h2 h3 => by
    have := adj_dup l k h1 h2 h3
    simpa using this
  have HN : Hid ((∀ j, 1 ≤ j → j < l.length → ¬ (srt l).getD j 0 = (srt l).getD (j - 1) 0) → decide (¬ l.Nodup) = false) := fun q => by
    have := adj_nodup l q
    simpa using this
  have HI : Hid (∀ (W : World) (v' : Value), W.ownsRow w.heap.size 3 1 v' l.length ((srt l).map (Value.int .i64)) → Ints W.heap.size W v' (srt l)) := fun W v' q => ints_own (B := w.heap.size) (by rw [srt_len]; exact q)
  have HLs : Hid ((srt l).length = l.length) := srt_len l
  clear h hcap
  obtain ⟨L, hL⟩ : ∃ L, l.length = L := ⟨_, rfl⟩
  rw [hL] at C1 C2 HA HN HI HLs hlen ⊢
  clear hL
  go_enter Try.func41, Try.ntmps41
  go_wp2_with fail
  refine C1.mono ?_
  rintro e w1 ⟨v1, rfl, ho1, hb1⟩
  have C3 := C2 v1 w1 ho1
  clear C1 C2 ho1
  go_wp2_with fail
  refine C3.mono ?_
  rintro e w2 ⟨rfl, ho2, hbb⟩
  have hb2 := hbb _ _ (Nat.le_refl _) hb1
  obtain ⟨a1, cap1, rfl, hcap1, hc⟩ := HI.out _ _ ho2
  have HC : Hid _ := hc
  have HL : Hid (srt l ≠ [] ↔ 0 < L) := by
    show _ ↔ _
    rw [← HLs.out]
    cases srt l <;> simp
  rw [HLs.out] at HC ⊢
  clear C3 ho2 hbb hb1 hc hcap1 HI HLs
  go_wp2_with fail
  go_loopw [4] (fun i wr => ∃ k : Nat, i = .int .i64 k ∧ 1 ≤ k ∧ k ≤ L + 1 ∧ Hid (∀ j, 1 ≤ j → j < k → ¬ (srt l).getD j 0 = (srt l).getD (j - 1) 0) ∧ Below w2.heap.size w2 wr) (fun i _ => L - (intOf i).toNat)
  case atStart => exact ⟨1, rfl, by omega, by omega, fun j h1 h2 => absurd h2 (by omega), Below.refl _ _⟩
  case round =>
    obtain ⟨k, rfl, hk1, hk, HT, hb⟩ := hrel
    by_cases hlt : k < L
    · have hlt' : (k : Int) < (L : Int) := by omega
      obtain ⟨g, off, rfl, hg, hc⟩ := HC.out (HL.out.2 (by omega))
      have c1 : wr.cell? ⟨g, off + k, none⟩ = some (.int .i64 ((srt l).getD k 0)) := by rw [hb.cell (by exact hg)]; exact hc k hlt
      have c2 : wr.cell? ⟨g, off + (k - 1), none⟩ = some (.int .i64 ((srt l).getD (k - 1) 0)) := by rw [hb.cell (by exact hg)]; exact hc (k - 1) (by omega)
      obtain ⟨m, rfl⟩ : ∃ m, k = m + 1 := ⟨k - 1, by omega⟩
      rw [Nat.add_sub_cancel] at c2
      have HA2 : Hid ((srt l).getD (m + 1) 0 = (srt l).getD m 0 → decide (¬ l.Nodup) = true) := HA.out (m + 1) hk1 hlt
      have HT2 : Hid (¬ (srt l).getD (m + 1) 0 = (srt l).getD m 0 → ∀ j, 1 ≤ j → j < m + 1 + 1 → ¬ (srt l).getD j 0 = (srt l).getD (j - 1) 0) := by
        intro q j h1 h2
        by_cases hj : j = m + 1
        · subst hj; exact q
        · exact HT.out j h1 (by omega)
      clear hc HC HA HN HT
      have hm : IntKind.i64.wrap (((m + 1 : Nat) : Int) - 1) = (m : Int) := by rw [IntKind.wrap_i64]; omega
      generalize (srt l).getD (m + 1) 0 = x at *
      generalize (srt l).getD m 0 = y at *
      by_cases hxy : x = y
      · have HD : Hid (decide (¬ l.Nodup) = true) := HA2.out hxy
        subst hxy
        clear HA2 HT2
        go_wp2
        go_region
        go_wp2
        go_ret
        exact ⟨retB HD.out, bthen hb2 hb2.size hb.drew⟩
      · have HT3 := HT2.out hxy
        have HT4 : Hid _ := HT3
        have hxy' : (x == y) = false := by simpa using hxy
        clear HA2 HT2 HT3
        go_wp2
        go_region
        go_wp2
        go_roundw
        case rel => exact ⟨m + 1 + 1, by go_num, by omega, by omega, HT4, hb.drew⟩
        case measure => simp [intOf]; omega
    · have HD : Hid (decide (¬ l.Nodup) = false) := HN.out fun j h1 h2 => HT.out j h1 (by omega)
      go_wp2
      go_ret
      exact ⟨retB HD.out, bthen hb2 hb2.size hb⟩

end Go.Proofs.Yteknjkofmkigoab
