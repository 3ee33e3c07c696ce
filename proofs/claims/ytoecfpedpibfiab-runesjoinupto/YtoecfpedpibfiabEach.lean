/- The walks of size and each: going through a text tells its runes, one behind the other, as long as the function that it is handed answers true. -/
import Derived.Test.YtoecfpedpibfiabRunes
import Derived.Test.YtoecfpedpibfiabShelf
import Derived.Test.YtoecfpedpibfiabRows
import Derived.WalkKit
import Derived.WalkSpells
import Derived.WalkLawsBesides
import Derived.WalkSmall
import Derived.Lib.OthersKept
import Derived.Deep.LoopGhost
namespace Go.Proofs.Ytoecfpedpibfiab
open Go.RowKit

theorem ret1 {a b : Int} (h : a = b) : Ending.returned (.int .i64 a) = .returned (.int .i64 b) := by rw [h]

/-- A rune as the program hands it on. -/
def encR (r : Rn) : Value := .agg #[.int .i64 r.1, .int .i64 r.2.1, .int .i64 r.2.2]

set_option maxHeartbeats 400000 in
theorem size_core (x : ByteArray) (r : Int) (d : Nat) (q : Bool) (w : World) (C : ∀ w, Calls Try.prog 23 #[.string x, .string { data := #[239, 191, 189] }] w fun e w' => e = .returned (.bool q) ∧ w' = w)
    (h1 : r < 128 → d = 1) (h2 : 128 ≤ r → r < 2048 → d = 2) (h3 : 2048 ≤ r → r < 65536 → r ≠ 65533 → d = 3) (h4 : 65536 ≤ r → d = 4) (h5 : r = 65533 → (d = 3 ∧ q = true) ∨ (d = 1 ∧ q = false)) :
    Calls Try.prog 20 #[.string x, .int .i32 r] w fun e w' => e = .returned (.int .i64 d) ∧ w' = w := by
  by_cases a1 : r < 128
  · obtain rfl := h1 a1
    clear C h1 h2 h3 h4 h5
    go_enter Try.func20, Try.ntmps20
    go_wp2
    go_ret
    exact ⟨rfl, rfl⟩
  · by_cases a2 : r < 2048
    · obtain rfl := h2 (by omega) a2
      clear C h1 h2 h3 h4 h5
      go_enter Try.func20, Try.ntmps20
      go_wp2
      go_ret
      exact ⟨rfl, rfl⟩
    · by_cases a3 : r = 65533
      · obtain ⟨rfl, rfl⟩ | ⟨rfl, rfl⟩ := h5 a3
        all_goals
          subst a3
          clear h1 h2 h3 h4 h5
          go_enter Try.func20, Try.ntmps20
          go_wp2_with (go_at_call 23; refine (C _).mono ?_; rintro e w' ⟨rfl, rfl⟩)
          go_ret
          exact ⟨rfl, rfl⟩
      · have a3' : (r == 65533) = false := by simpa using a3
        by_cases a4 : r < 65536
        · obtain rfl := h3 (by omega) a4 a3
          clear C h1 h2 h3 h4 h5
          go_enter Try.func20, Try.ntmps20
          go_wp2
          go_ret
          exact ⟨rfl, rfl⟩
        · obtain rfl := h4 (by omega)
          clear C h1 h2 h3 h4 h5
          go_enter Try.func20, Try.ntmps20
          go_wp2
          go_ret
          exact ⟨rfl, rfl⟩

theorem size_any (s : ByteArray) (p : Nat) (w : World) : Calls Try.prog 20 #[.string (s.extract p s.size), .int .i32 (rn s p)] w fun e w' => e = .returned (.int .i64 (wd s p)) ∧ w' = w := by
  obtain ⟨h1, h2, h3, h4, h5, _⟩ := shape_at s p
  have hx : Lib.hasPrefix (s.extract p s.size).data.toList [239, 191, 189] = decide (3 ≤ s.size - p ∧ (s.get! p).toNat = 239 ∧ (s.get! (p + 1)).toNat = 191 ∧ (s.get! (p + 2)).toNat = 189) := by
    rw [Lib.extract_to_end]
    rw [Bool.eq_iff_iff, decide_eq_true_eq]
    exact prefix_iff s p
  refine size_core _ _ _ (decide (3 ≤ s.size - p ∧ (s.get! p).toNat = 239 ∧ (s.get! (p + 1)).toNat = 191 ∧ (s.get! (p + 2)).toNat = 189)) w (fun w => ?_) (fun h => h1 (by omega)) (fun h h' => h2 (by omega) (by omega)) (fun h h' h'' => h3 (by omega) (by omega) (by omega)) (fun h => h4 (by omega)) (fun h => ?_)
  · rw [← hx]; exact Try.strings_HasPrefix _ _ w
  · rcases h5 (by omega) with ⟨a, b⟩ | ⟨a, b⟩
    · exact .inl ⟨a, decide_eq_true b⟩
    · exact .inr ⟨a, decide_eq_false b⟩

set_option maxHeartbeats 2000000 in
theorem each_any (s : ByteArray) (g : Nat) (lb : Array Value) (eg : ∀ args w, (callFunc g args).run Try.prog w = .ok (.enter g args) w) (w : World) (_hs : s.size ≤ 9223372036854775807)
    (go : List Rn → Bool) (I : List Rn → World → Prop)
    (h0 : I [] (w.alloc (.stringIter s 0)))
    (hit : ∀ done W p p', I done W → W.heap[w.heap.size]? = some (.stringIter s p) → I done (W.iterAt w.heap.size s p'))
    (hstep : ∀ done r l W, rest s 0 = done ++ r :: l → (done = [] ∨ go done = true) → I done W → w.heap.size < W.heap.size →
      Calls Try.prog g (#[encR r] ++ lb) W fun e W' => e = .returned (.bool (go (done ++ [r]))) ∧ I (done ++ [r]) W' ∧ W'.heap[w.heap.size]? = W.heap[w.heap.size]?) :
    Calls Try.prog 12 #[.string s, .func (.func g) #[] lb] w fun e w' => e = .returned (.tuple #[]) ∧ I (runTo go [] (rest s 0)) w' := by
  go_enter Try.func12, Try.ntmps12
  go_wp2
  go_loopg [] (s.size + 1) (fun gf wx => ∃ (pos : Nat) (done : List Rn), wx.heap[w.heap.size]? = some (.stringIter s pos) ∧ rest s 0 = done ++ rest s pos ∧ I done wx ∧ Hid (runTo go done (rest s pos) = runTo go [] (rest s 0)) ∧ Hid (done = [] ∨ go done = true) ∧ s.size < pos + gf)
  case atStart => exact ⟨0, [], World.iter_heap w s 0, rfl, h0, rfl, .inl rfl, by omega⟩
  case round =>
    obtain ⟨pos, done, hi, hd, hI, hR, hG, hfu⟩ := hrel
    by_cases hps : pos < s.size
    · obtain ⟨g', rfl⟩ : ∃ g', gk = g' + 1 := ⟨gk - 1, by omega⟩
      have hnx : ∀ ty, (Instr.next (.pointer (some ⟨w.heap.size, 0, none⟩)) true ty).run Try.prog wr = .ok (.tuple #[.bool true, .int .i64 pos, .int .i32 (rn s pos)]) (wr.iterAt w.heap.size s (pos + wd s pos)) := fun ty => Lib.run_next_any_at wr w.heap.size s pos ty hi hps
      have hwp := wd_pos s pos
      have hwl := wd_le s pos hps
      have hrl := rn_le s pos
      have hi2 := Lib.iterAt_heap wr w.heap.size s pos (pos + wd s pos) hi
      have hI2 := hit done wr pos (pos + wd s pos) hI hi
      have hre := rest_at s pos hps
      rw [hre] at hd
      have hst := hstep done _ _ (wr.iterAt w.heap.size s (pos + wd s pos)) hd hG.out hI2 (Array.getElem?_eq_some_iff.1 hi2).1
      have hsz := size_any s pos
      obtain ⟨W, hW⟩ : ∃ W, wr.iterAt w.heap.size s (pos + wd s pos) = W := ⟨_, rfl⟩
      rw [hW] at hnx hi2 hI2 hst
      have HR : Hid (runTo go done ((pos, wd s pos, rn s pos) :: rest s (pos + wd s pos)) = runTo go [] (rest s 0)) := by rw [← hre]; exact hR.out
      have HD : Hid (rest s 0 = done ++ [(pos, wd s pos, rn s pos)] ++ rest s (pos + wd s pos)) := by show _ = _; rw [hd]; simp
      clear hstep hit h0 hd hre hR hW hI hi hI2 hG
      unfold encR at hst
      cases hgo : go (done ++ [(pos, wd s pos, rn s pos)])
      · have HR2 : Hid (done ++ [(pos, wd s pos, rn s pos)] = runTo go [] (rest s 0)) := by have := HR.out; rw [runTo, hgo] at this; exact this
        go_wp2_with (first
          | (go_at_call 20; refine (hsz _).mono ?_; rintro e w' ⟨rfl, rfl⟩)
          | (go_at_fn g; refine hst.mono ?_; rintro e W' ⟨rfl, hI3, hk3⟩))
        exact bodyPost_ret (v := .tuple #[]) (by simp [results, Try.results12, go_sem]) rfl ⟨rfl, by rw [← HR2.out]; assumption⟩
      · have HR2 : Hid (runTo go (done ++ [(pos, wd s pos, rn s pos)]) (rest s (pos + wd s pos)) = runTo go [] (rest s 0)) := by have := HR.out; rw [runTo, hgo] at this; exact this
        go_wp2_with (first
          | (go_at_call 20; refine (hsz _).mono ?_; rintro e w' ⟨rfl, rfl⟩)
          | (go_at_fn g; refine hst.mono ?_; rintro e W' ⟨rfl, hI3, hk3⟩))
        go_roundg g'
        case measure => omega
        case rel => exact ⟨pos + wd s pos, _, by rw [hk3]; exact hi2, HD.out, by assumption, HR2, .inr hgo, by omega⟩
    · have hnx : ∀ ty, (Instr.next (.pointer (some ⟨w.heap.size, 0, none⟩)) true ty).run Try.prog wr = .ok (.tuple #[.bool false]) wr := fun ty => Lib.run_next_end_at wr w.heap.size s pos ty hi hps
      have hre := rest_end s pos hps
      rw [hre] at hR
      have HR : Hid (done = runTo go [] (rest s 0)) := hR.out
      clear hstep hit h0 hd hre hR hG
      go_wp2
      go_end0
      exact ⟨rfl, by rw [← HR.out]; assumption⟩

#print axioms each_any
end Go.Proofs.Ytoecfpedpibfiab
