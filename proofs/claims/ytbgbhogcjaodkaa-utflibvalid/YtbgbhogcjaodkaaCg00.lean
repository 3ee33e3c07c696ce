/- Plain facts on the runes of a text (no program in it): how wide a rune is by its code point; the list of a text's runes. -/
import Derived.Lib.DecodeN
import Derived.Lib.IndexBytes
import Derived.Shelf.Strings.Prefix
import Derived.Test.YtbgbhogcjaodkaaProg
import Derived.Test.YtbgbhogcjaodkaaRows
import Derived.WalkKit
import Derived.WalkSpells
import Derived.WalkLawsBesides
import Derived.WalkSmall
import Derived.Lib.OthersKept
import Derived.Deep.LoopGhost
namespace Go.Proofs.Ytbgbhogcjaodkaa

def wd (s : ByteArray) (p : Nat) : Nat := (Utf8.decode s p).2
def rn (s : ByteArray) (p : Nat) : Nat := (Utf8.decode s p).1

theorem byte_lt (s : ByteArray) (i : Nat) : (s.get! i).toNat < 256 := (s.get! i).toNat_lt

/-- All that the width of a rune hangs on. -/
theorem decodeN_shape (n b0 b1 b2 b3 : Nat) (h0 : b0 < 256) (h1 : b1 < 256) :
    ((Lib.decodeN n b0 b1 b2 b3).1 < 128 → (Lib.decodeN n b0 b1 b2 b3).2 = 1) ∧
    (128 ≤ (Lib.decodeN n b0 b1 b2 b3).1 → (Lib.decodeN n b0 b1 b2 b3).1 < 2048 → (Lib.decodeN n b0 b1 b2 b3).2 = 2) ∧
    (2048 ≤ (Lib.decodeN n b0 b1 b2 b3).1 → (Lib.decodeN n b0 b1 b2 b3).1 < 65536 → (Lib.decodeN n b0 b1 b2 b3).1 ≠ 65533 → (Lib.decodeN n b0 b1 b2 b3).2 = 3) ∧
    (65536 ≤ (Lib.decodeN n b0 b1 b2 b3).1 → (Lib.decodeN n b0 b1 b2 b3).2 = 4) ∧
    ((Lib.decodeN n b0 b1 b2 b3).1 = 65533 → ((Lib.decodeN n b0 b1 b2 b3).2 = 3 ∧ 3 ≤ n ∧ b0 = 239 ∧ b1 = 191 ∧ b2 = 189) ∨ ((Lib.decodeN n b0 b1 b2 b3).2 = 1 ∧ ¬ (3 ≤ n ∧ b0 = 239 ∧ b1 = 191 ∧ b2 = 189))) ∧
    (Lib.decodeN n b0 b1 b2 b3).1 ≤ 1114111 ∧ 1 ≤ (Lib.decodeN n b0 b1 b2 b3).2 ∧ ((Lib.decodeN n b0 b1 b2 b3).2 ≤ n ∨ n = 0) := by
  unfold Lib.decodeN
  repeat' split
  all_goals (refine ⟨?_, ?_, ?_, ?_, ?_, ?_, ?_, ?_⟩ <;> simp only <;> (try intros) <;> first | omega | trivial | (simp; omega))

theorem shape_at (s : ByteArray) (p : Nat) :
    (rn s p < 128 → wd s p = 1) ∧ (128 ≤ rn s p → rn s p < 2048 → wd s p = 2) ∧ (2048 ≤ rn s p → rn s p < 65536 → rn s p ≠ 65533 → wd s p = 3) ∧ (65536 ≤ rn s p → wd s p = 4) ∧
    (rn s p = 65533 → (wd s p = 3 ∧ 3 ≤ s.size - p ∧ (s.get! p).toNat = 239 ∧ (s.get! (p + 1)).toNat = 191 ∧ (s.get! (p + 2)).toNat = 189) ∨
      (wd s p = 1 ∧ ¬ (3 ≤ s.size - p ∧ (s.get! p).toNat = 239 ∧ (s.get! (p + 1)).toNat = 191 ∧ (s.get! (p + 2)).toNat = 189))) ∧
    rn s p ≤ 1114111 ∧ 1 ≤ wd s p ∧ (wd s p ≤ s.size - p ∨ s.size - p = 0) := by
  unfold rn wd
  rw [Lib.decode_at]
  exact decodeN_shape _ _ _ _ _ (byte_lt s p) (byte_lt s (p + 1))

theorem wd_pos (s : ByteArray) (p : Nat) : 1 ≤ wd s p := (shape_at s p).2.2.2.2.2.2.1
theorem wd_le (s : ByteArray) (p : Nat) (h : p < s.size) : p + wd s p ≤ s.size := by have := (shape_at s p).2.2.2.2.2.2.2; omega
theorem rn_le (s : ByteArray) (p : Nat) : rn s p ≤ 1114111 := (shape_at s p).2.2.2.2.2.1

/-- A rune of a text: where it begins, how many bytes it has, its code point; the runes from a byte on. -/
abbrev Rn := Nat × Nat × Nat
def rest (s : ByteArray) (p : Nat) : List Rn := if _h : p < s.size then (p, wd s p, rn s p) :: rest s (p + wd s p) else []
termination_by s.size - p
decreasing_by have := wd_pos s p; omega

theorem rest_at (s : ByteArray) (p : Nat) (h : p < s.size) : rest s p = (p, wd s p, rn s p) :: rest s (p + wd s p) := by rw [rest]; simp [h]
theorem rest_end (s : ByteArray) (p : Nat) (h : ¬ p < s.size) : rest s p = [] := by rw [rest]; simp [h]

/-- Where a going through stops: behind the first rune at which it is told to, else at the end. -/
def runTo (go : List Rn → Bool) : List Rn → List Rn → List Rn
  | done, [] => done
  | done, r :: l => if go (done ++ [r]) then runTo go (done ++ [r]) l else done ++ [r]

theorem get_data (s : ByteArray) (i : Nat) : s.get! i = s.data.toList.getD i 0 := by
  obtain ⟨⟨l⟩⟩ := s
  simp [ByteArray.get!, getElem!_def, List.getD]
  cases l[i]? <;> rfl

theorem prefix_iff (s : ByteArray) (p : Nat) : ([239, 191, 189] : List UInt8).isPrefixOf (s.data.toList.drop p) = true ↔ (3 ≤ s.size - p ∧ (s.get! p).toNat = 239 ∧ (s.get! (p + 1)).toNat = 191 ∧ (s.get! (p + 2)).toNat = 189) := by
  have hsz : s.size - p = (s.data.toList.drop p).length := by simp
  have e0 : s.get! p = (s.data.toList.drop p).getD 0 0 := by rw [get_data]; simp [List.getD, List.getElem?_drop]
  have e1 : s.get! (p + 1) = (s.data.toList.drop p).getD 1 0 := by rw [get_data]; simp [List.getD, List.getElem?_drop]
  have e2 : s.get! (p + 2) = (s.data.toList.drop p).getD 2 0 := by rw [get_data]; simp [List.getD, List.getElem?_drop]
  rw [hsz, e0, e1, e2]
  generalize s.data.toList.drop p = l
  have inj : ∀ (x : UInt8) (n : Nat), n < 256 → (x.toNat = n ↔ UInt8.ofNat n = x) := fun x n hn => ⟨fun h => by apply UInt8.toNat_inj.1; simp [h]; omega, fun h => by subst h; simp; omega⟩
  match l with
  | [] => simp
  | [a] => simp
  | [a, b] => simp
  | a :: b :: c :: t =>
    simp only [List.isPrefixOf, Bool.and_true, Bool.and_eq_true, beq_iff_eq, List.length_cons, List.getD_cons_zero, List.getD_cons_succ]
    rw [inj a 239 (by omega), inj b 191 (by omega), inj c 189 (by omega)]
    constructor
    · rintro ⟨h0, h1, h2⟩; exact ⟨by omega, h0, h1, h2⟩
    · rintro ⟨_, h0, h1, h2⟩; exact ⟨h0, h1, h2⟩

end Go.Proofs.Ytbgbhogcjaodkaa

/-
  DERIVED: THE SHELF's CONTRACTS AT THIS DUMP, IN PLAIN WORDS (tools/lay-plain.mjs out of 'TryShelf.lean', which tools/lay-shelf.mjs wrote): THE SAME DECLARATIONS UNDER THE SAME NAMES: 'import', 'namespace', 'open', 'def', 'theorem' AND NOTHING ELSE: no command of the shelf's: FOR A HAND-IN. Each laying: the table of numbers ('.._ren') and one theorem, a field a fact of the dump's own or the kernel's comparison; each contract: ONE APPLICATION.
-/
namespace Go.Proofs
open Go.Shelf
def Try.lays206_ren : Go.Shelf.Ren := ⟨fun | 206 => 48 | n => n, fun | 9 => 9 | 4 => 4 | 3 => 3 | n => n, fun | n => n⟩
theorem Try.lays206 : Go.Proofs.Lays.n206 Try.prog Try.lays206_ren := {
  mixed := by kernel_rfl
  f206 := Try.func48.trans (congrArg some (by kernel_rfl))
  t3 := Try.underlying3
  a3 := Try.isAgg3
  z3 := Try.sizeOf3
  v3 := Try.zeroValue3
  t4 := Try.underlying4
  a4 := Try.isAgg4
  z4 := Try.sizeOf4
  v4 := Try.zeroValue4
  t9 := Try.underlying9
  a9 := Try.isAgg9
  z9 := Try.sizeOf9
  v9 := Try.zeroValue9 }
open Go.RowKit Go.Lib in
/-- internal/stringslite.HasPrefix (what strings.HasPrefix calls). (LAID: no walk: one application.) -/
theorem Try.stringslite_HasPrefix (s p : ByteArray) (w : World) :
    Calls Try.prog 48 #[.string s, .string p] w fun e w' => e = .returned (.bool (Lib.hasPrefix s.data.toList p.data.toList)) ∧ w' = w := Any.stringslite_HasPrefix Try.lays206 s p w
def Try.lays99_ren : Go.Shelf.Ren := ⟨fun | 99 => 47 | 206 => 48 | n => n, fun | 9 => 9 | 4 => 4 | 3 => 3 | n => n, fun | n => n⟩
theorem Try.lays99 : Go.Proofs.Lays.n99 Try.prog Try.lays99_ren := {
  mixed := by kernel_rfl
  f99 := Try.func47.trans (congrArg some (by kernel_rfl))
  f206 := Try.func48.trans (congrArg some (by kernel_rfl))
  t3 := Try.underlying3
  a3 := Try.isAgg3
  z3 := Try.sizeOf3
  v3 := Try.zeroValue3
  t4 := Try.underlying4
  a4 := Try.isAgg4
  z4 := Try.sizeOf4
  v4 := Try.zeroValue4
  t9 := Try.underlying9
  a9 := Try.isAgg9
  z9 := Try.sizeOf9
  v9 := Try.zeroValue9 }
open Go.RowKit Go.Lib in
/-- strings.HasPrefix: "HasPrefix reports whether the string s begins with prefix.": IT RETURNS 'Lib.hasPrefix s prefix'; the world is as it was. (LAID: no walk: one application.) -/
theorem Try.strings_HasPrefix (s p : ByteArray) (w : World) :
    Calls Try.prog 47 #[.string s, .string p] w fun e w' => e = .returned (.bool (Lib.hasPrefix s.data.toList p.data.toList)) ∧ w' = w := Any.strings_HasPrefix Try.lays99 s p w
end Go.Proofs

/- The walks of size and each: going through a text tells its runes, one behind the other, as long as the function that it is handed answers true. -/
namespace Go.Proofs.Ytbgbhogcjaodkaa
open Go.RowKit

theorem ret1 {a b : Int} (h : a = b) : Ending.returned (.int .i64 a) = .returned (.int .i64 b) := by rw [h]

/-- A rune as the program hands it on. -/
def encR (r : Rn) : Value := .agg #[.int .i64 r.1, .int .i64 r.2.1, .int .i64 r.2.2]

set_option maxHeartbeats 400000 in
theorem size_core (x : ByteArray) (r : Int) (d : Nat) (q : Bool) (w : World) (C : ∀ w, Calls Try.prog 47 #[.string x, .string { data := #[239, 191, 189] }] w fun e w' => e = .returned (.bool q) ∧ w' = w)
    (h1 : r < 128 → d = 1) (h2 : 128 ≤ r → r < 2048 → d = 2) (h3 : 2048 ≤ r → r < 65536 → r ≠ 65533 → d = 3) (h4 : 65536 ≤ r → d = 4) (h5 : r = 65533 → (d = 3 ∧ q = true) ∨ (d = 1 ∧ q = false)) :
    Calls Try.prog 46 #[.string x, .int .i32 r] w fun e w' => e = .returned (.int .i64 d) ∧ w' = w := by
  by_cases a1 : r < 128
  · obtain rfl := h1 a1
    clear C h1 h2 h3 h4 h5
    go_enter Try.func46, Try.ntmps46
    go_wp2
    go_ret
    exact ⟨rfl, rfl⟩
  · by_cases a2 : r < 2048
    · obtain rfl := h2 (by omega) a2
      clear C h1 h2 h3 h4 h5
      go_enter Try.func46, Try.ntmps46
      go_wp2
      go_ret
      exact ⟨rfl, rfl⟩
    · by_cases a3 : r = 65533
      · obtain ⟨rfl, rfl⟩ | ⟨rfl, rfl⟩ := h5 a3
        all_goals
          subst a3
          clear h1 h2 h3 h4 h5
          go_enter Try.func46, Try.ntmps46
          go_wp2_with (go_at_call 47; refine (C _).mono ?_; rintro e w' ⟨rfl, rfl⟩)
          go_ret
          exact ⟨rfl, rfl⟩
      · have a3' : (r == 65533) = false := by simpa using a3
        by_cases a4 : r < 65536
        · obtain rfl := h3 (by omega) a4 a3
          clear C h1 h2 h3 h4 h5
          go_enter Try.func46, Try.ntmps46
          go_wp2
          go_ret
          exact ⟨rfl, rfl⟩
        · obtain rfl := h4 (by omega)
          clear C h1 h2 h3 h4 h5
          go_enter Try.func46, Try.ntmps46
          go_wp2
          go_ret
          exact ⟨rfl, rfl⟩

theorem size_any (s : ByteArray) (p : Nat) (w : World) : Calls Try.prog 46 #[.string (s.extract p s.size), .int .i32 (rn s p)] w fun e w' => e = .returned (.int .i64 (wd s p)) ∧ w' = w := by
  obtain ⟨h1, h2, h3, h4, h5, _⟩ := shape_at s p
  have hx : Lib.hasPrefix (s.extract p s.size).data.toList [239, 191, 189] = decide (3 ≤ s.size - p ∧ (s.get! p).toNat = 239 ∧ (s.get! (p + 1)).toNat = 191 ∧ (s.get! (p + 2)).toNat = 189) := by
    rw [Lib.extract_to_end]
    rw [Bool.eq_iff_iff, decide_eq_true_eq]
    exact prefix_iff s p
  refine size_core _ _ _ (decide (3 ≤ s.size - p ∧ (s.get! p).toNat = 239 ∧ (s.get! (p + 1)).toNat = 191 ∧ (s.get! (p + 2)).toNat = 189)) w (fun w => ?_) (fun h => h1 (by omega)) (fun h h' => h2 (by omega) (by omega)) (fun h h' h'' => h3 (by omega) (by omega) (by omega)) (fun h => h4 (by omega)) (fun h => ?_)
  · rw [← hx]; exact Try.strings_HasPrefix _ _ w
  · rcases h5 (by omega) with ⟨a, b⟩ | ⟨a, b⟩
    · exact .inl ⟨a, decide_eq_true b⟩
    · exact .inr ⟨a, decide_eq_false b⟩

set_option maxHeartbeats 2000000 in
theorem each_any (s : ByteArray) (g : Nat) (lb : Array Value) (eg : ∀ args w, (callFunc g args).run Try.prog w = .ok (.enter g args) w) (w : World) (_hs : s.size ≤ 9223372036854775807)
    (go : List Rn → Bool) (I : List Rn → World → Prop)
    (h0 : I [] (w.alloc (.stringIter s 0)))
    (hit : ∀ done W p p', I done W → W.heap[w.heap.size]? = some (.stringIter s p) → I done (W.iterAt w.heap.size s p'))
    (hstep : ∀ done r l W, rest s 0 = done ++ r :: l → (done = [] ∨ go done = true) → I done W → w.heap.size < W.heap.size →
      Calls Try.prog g (#[encR r] ++ lb) W fun e W' => e = .returned (.bool (go (done ++ [r]))) ∧ I (done ++ [r]) W' ∧ W'.heap[w.heap.size]? = W.heap[w.heap.size]?) :
    Calls Try.prog 38 #[.string s, .func (.func g) #[] lb] w fun e w' => e = .returned (.tuple #[]) ∧ I (runTo go [] (rest s 0)) w' := by
  go_enter Try.func38, Try.ntmps38
  go_wp2
  go_loopg [] (s.size + 1) (fun gf wx => ∃ (pos : Nat) (done : List Rn), wx.heap[w.heap.size]? = some (.stringIter s pos) ∧ rest s 0 = done ++ rest s pos ∧ I done wx ∧ Hid (runTo go done (rest s pos) = runTo go [] (rest s 0)) ∧ Hid (done = [] ∨ go done = true) ∧ s.size < pos + gf)
  case atStart => exact ⟨0, [], World.iter_heap w s 0, rfl, h0, rfl, .inl rfl, by omega⟩
  case round =>
    obtain ⟨pos, done, hi, hd, hI, hR, hG, hfu⟩ := hrel
    by_cases hps : pos < s.size
    · obtain ⟨g', rfl⟩ : ∃ g', gk = g' + 1 := ⟨gk - 1, by omega⟩
      have hnx : ∀ ty, (Instr.next (.pointer (some ⟨w.heap.size, 0, none⟩)) true ty).run Try.prog wr = .ok (.tuple #[.bool true, .int .i64 pos, .int .i32 (rn s pos)]) (wr.iterAt w.heap.size s (pos + wd s pos)) := fun ty => Lib.run_next_any_at wr w.heap.size s pos ty hi hps
      have hwp := wd_pos s pos
      have hwl := wd_le s pos hps
      have hrl := rn_le s pos
      have hi2 := Lib.iterAt_heap wr w.heap.size s pos (pos + wd s pos) hi
      have hI2 := hit done wr pos (pos + wd s pos) hI hi
      have hre := rest_at s pos hps
      rw [hre] at hd
      have hst := hstep done _ _ (wr.iterAt w.heap.size s (pos + wd s pos)) hd hG.out hI2 (Array.getElem?_eq_some_iff.1 hi2).1
      have hsz := size_any s pos
      obtain ⟨W, hW⟩ : ∃ W, wr.iterAt w.heap.size s (pos + wd s pos) = W := ⟨_, rfl⟩
      rw [hW] at hnx hi2 hI2 hst
      have HR : Hid (runTo go done ((pos, wd s pos, rn s pos) :: rest s (pos + wd s pos)) = runTo go [] (rest s 0)) := by rw [← hre]; exact hR.out
      have HD : Hid (rest s 0 = done ++ [(pos, wd s pos, rn s pos)] ++ rest s (pos + wd s pos)) := by show _ = _; rw [hd]; simp
      clear hstep hit h0 hd hre hR hW hI hi hI2 hG
      unfold encR at hst
      cases hgo : go (done ++ [(pos, wd s pos, rn s pos)])
      · have HR2 : Hid (done ++ [(pos, wd s pos, rn s pos)] = runTo go [] (rest s 0)) := by have := HR.out; rw [runTo, hgo] at this; exact this
        go_wp2_with (first
          | (go_at_call 46; refine (hsz _).mono ?_; rintro e w' ⟨rfl, rfl⟩)
          | (go_at_fn g; refine hst.mono ?_; rintro e W' ⟨rfl, hI3, hk3⟩))
        exact bodyPost_ret (v := .tuple #[]) (by simp [results, Try.results38, go_sem]) rfl ⟨rfl, by rw [← HR2.out]; assumption⟩
      · have HR2 : Hid (runTo go (done ++ [(pos, wd s pos, rn s pos)]) (rest s (pos + wd s pos)) = runTo go [] (rest s 0)) := by have := HR.out; rw [runTo, hgo] at this; exact this
        go_wp2_with (first
          | (go_at_call 46; refine (hsz _).mono ?_; rintro e w' ⟨rfl, rfl⟩)
          | (go_at_fn g; refine hst.mono ?_; rintro e W' ⟨rfl, hI3, hk3⟩))
        go_roundg g'
        case measure => omega
        case rel => exact ⟨pos + wd s pos, _, by rw [hk3]; exact hi2, HD.out, by assumption, HR2, .inr hgo, by omega⟩
    · have hnx : ∀ ty, (Instr.next (.pointer (some ⟨w.heap.size, 0, none⟩)) true ty).run Try.prog wr = .ok (.tuple #[.bool false]) wr := fun ty => Lib.run_next_end_at wr w.heap.size s pos ty hi hps
      have hre := rest_end s pos hps
      rw [hre] at hR
      have HR : Hid (done = runTo go [] (rest s 0)) := hR.out
      clear hstep hit h0 hd hre hR hG
      go_wp2
      go_end0
      exact ⟨rfl, by rw [← HR.out]; assumption⟩

#print axioms each_any
end Go.Proofs.Ytbgbhogcjaodkaa

/- Cells of a call's own beside a text's iterator: how they stand through stores, new blocks and the iterator's steps. -/
namespace Go.Proofs.Ytbgbhogcjaodkaa
open Go.RowKit

/-- The listed cells (block, place, value) are there, may be written, and lie from B on, beside block k; below B nothing has turned. -/
structure Own (B k : Nat) (w W : World) (cs : List (Nat × Nat × Value)) : Prop where
  cell : ∀ c ∈ cs, W.cell? ⟨c.1, c.2.1, none⟩ = some c.2.2
  free : ∀ c ∈ cs, W.frozen? ⟨c.1, c.2.1, none⟩ = false
  low : ∀ c ∈ cs, B ≤ c.1 ∧ c.1 ≠ k ∧ c.1 < W.heap.size
  below : Below B w W
  iter : B ≤ k ∧ k < W.heap.size

theorem Own.iterAt {B k : Nat} {w W : World} {cs : List (Nat × Nat × Value)} (h : Own B k w W cs) (s : ByteArray) (p : Nat) : Own B k w (W.iterAt k s p) cs where
  cell c hc := (World.cell?_of_block (Lib.iterAt_other W k c.1 s p (h.low c hc).2.1)).trans (h.cell c hc)
  free c hc := (World.frozen?_of_block (Lib.iterAt_other W k c.1 s p (h.low c hc).2.1)).trans (h.free c hc)
  low c hc := by rw [Lib.iterAt_size]; exact h.low c hc
  below := Lib.below_iterAt h.below h.iter.1 s p
  iter := by rw [Lib.iterAt_size]; exact h.iter

theorem Own.alloc {B k : Nat} {w W : World} {cs : List (Nat × Nat × Value)} (h : Own B k w W cs) (x : Obj) : Own B k w (W.alloc x) cs where
  cell c hc := (((Below.refl _ W).alloc (Nat.le_refl _) x).cell (h.low c hc).2.2).trans (h.cell c hc)
  free c hc := (((Below.refl _ W).alloc (Nat.le_refl _) x).frozen (h.low c hc).2.2).trans (h.free c hc)
  low c hc := by have := h.low c hc; simp; omega
  below := h.below.alloc (by have := h.iter; omega) x
  iter := by have := h.iter; simp; omega

theorem Own.set {B k : Nat} {w W : World} {cs : List (Nat × Nat × Value)} (h : Own B k w W cs) (b o : Nat) {v : Value} (hm : (b, o, v) ∈ cs) (v' : Value) :
    Own B k w (W.setCell ⟨b, o, none⟩ v') (cs.map fun c => if c.1 = b ∧ c.2.1 = o then (c.1, c.2.1, v') else c) where
  cell c hc := by
    obtain ⟨d, hd, rfl⟩ := List.mem_map.1 hc
    by_cases e : d.1 = b ∧ d.2.1 = o
    · rw [if_pos e]
      have := h.cell _ hm
      simp only [e.1, e.2]
      exact World.cell?_setCell_same _ _ _ this
    · rw [if_neg e]
      rw [World.cell?_setCell_other _ _ _ _ (fun q => e (by injection q with q1 q2; exact ⟨q1.symm, q2.symm⟩))]
      exact h.cell d hd
  free c hc := by
    obtain ⟨d, hd, rfl⟩ := List.mem_map.1 hc
    rw [World.frozen?_setCell]
    by_cases e : d.1 = b ∧ d.2.1 = o
    · rw [if_pos e]; exact h.free d hd
    · rw [if_neg e]; exact h.free d hd
  low c hc := by
    obtain ⟨d, hd, rfl⟩ := List.mem_map.1 hc
    have hz : (W.setCell ⟨b, o, none⟩ v').heap.size = W.heap.size := by simp [World.setCell]
    rw [hz]
    by_cases e : d.1 = b ∧ d.2.1 = o
    · rw [if_pos e]; exact h.low d hd
    · rw [if_neg e]; exact h.low d hd
  below := h.below.setCell (h.low _ hm).1 v'
  iter := by
    have hz : (W.setCell ⟨b, o, none⟩ v').heap.size = W.heap.size := by simp [World.setCell]
    rw [hz]; exact h.iter

/-- The iterator's block stays. -/
theorem iter_set {W : World} {b o k : Nat} (h : b ≠ k) (v : Value) : (W.setCell ⟨b, o, none⟩ v).heap[k]? = W.heap[k]? := Below.heap_setCell W _ v k (fun e => h e.symm)
theorem iter_alloc {W : World} {k : Nat} (h : k < W.heap.size) (x : Obj) : (W.alloc x).heap[k]? = W.heap[k]? := Below.heap_alloc W x k h
theorem size_set (W : World) (a : Addr) (v : Value) : (W.setCell a v).heap.size = W.heap.size := by simp [World.setCell]

/-- Cells of a block that has just been laid. -/
theorem new_cell (W : World) (l : List Value) (t : TypeId) (o : Nat) (v : Value) (h : l[o]? = some v) : (W.alloc (.cells l.toArray t)).cell? ⟨W.heap.size, o, none⟩ = some v ∧ (W.alloc (.cells l.toArray t)).frozen? ⟨W.heap.size, o, none⟩ = false := by
  have hh : (W.alloc (.cells l.toArray t)).heap[W.heap.size]? = some (.cells l.toArray t) := by
    show (W.heap.push _)[W.heap.size]? = _
    simp
  constructor
  · unfold World.cell?; rw [hh]; simp [h]
  · unfold World.frozen?; rw [hh]; simp

end Go.Proofs.Ytbgbhogcjaodkaa

/- The walks of Count, Bad and Decode. -/
namespace Go.Proofs.Ytbgbhogcjaodkaa
open Go.RowKit

theorem rest_len (s : ByteArray) (p : Nat) : (rest s p).length ≤ s.size - p := by
  by_cases h : p < s.size
  · rw [rest_at s p h]
    have h1 := wd_pos s p
    have h2 := rest_len s (p + wd s p)
    have h3 := wd_le s p h
    simp only [List.length_cons]
    omega
  · rw [rest_end s p h]; simp
termination_by s.size - p
decreasing_by have := wd_pos s p; omega

theorem runTo_all (l : List Rn) : ∀ done, runTo (fun _ => true) done l = done ++ l := by
  induction l with
  | nil => intro done; simp [runTo]
  | cons r l ih => intro done; simp [runTo, ih]

theorem enters32 : ∀ args w, (callFunc 40 args).run Try.prog w = .ok (.enter 40 args) w := enters_of Try.func40 (by kernel_rfl) rfl

theorem alloc_cell {W : World} {b : Nat} (h : b < W.heap.size) {o : Nat} {v : Option Value} (hc : W.cell? ⟨b, o, none⟩ = v) : ∀ x, (W.alloc x).cell? ⟨b, o, none⟩ = v := fun x => (((Below.refl _ W).alloc (Nat.le_refl _) x).cell h).trans hc
theorem alloc_frozen {W : World} {b : Nat} (h : b < W.heap.size) {o : Nat} {v : Bool} (hc : W.frozen? ⟨b, o, none⟩ = v) : ∀ x, (W.alloc x).frozen? ⟨b, o, none⟩ = v := fun x => (((Below.refl _ W).alloc (Nat.le_refl _) x).frozen h).trans hc

set_option maxHeartbeats 400000 in
theorem count_step (b : Nat) (W : World) (n : Int) (x y z : Int) (hb : b < W.heap.size) (hc : W.cell? ⟨b, 0, none⟩ = some (.int .i64 n)) (hf : W.frozen? ⟨b, 0, none⟩ = false) (h0 : 0 ≤ n) (h1 : n < 9223372036854775807) :
    Calls Try.prog 40 #[.agg #[.int .i64 x, .int .i64 y, .int .i64 z], .pointer (some ⟨b, 0, none⟩)] W fun e W' => e = .returned (.bool true) ∧ ∃ o, W' = (W.setCell ⟨b, 0, none⟩ (.int .i64 (n + 1))).alloc o := by
  have hc1 := alloc_cell hb hc
  have hf1 := alloc_frozen hb hf
  go_enter Try.func40, Try.ntmps40
  go_wp2
  go_ret
  exact ⟨rfl, _, rfl⟩

/-- One cell of the call's own and the iterator behind it: the start. -/
theorem own_start (w : World) (t : TypeId) (v : Value) (s : ByteArray) : Own w.heap.size (w.heap.size + 1) w ((w.alloc (.cells #[v] t)).alloc (.stringIter s 0)) [(w.heap.size, 0, v)] where
  cell c hc := by
    simp only [List.mem_singleton] at hc; subst hc
    exact alloc_cell (by simp) (new_cell w [v] t 0 v rfl).1 _
  free c hc := by
    simp only [List.mem_singleton] at hc; subst hc
    exact alloc_frozen (by simp) (new_cell w [v] t 0 v rfl).2 _
  low c hc := by simp only [List.mem_singleton] at hc; subst hc; simp; omega
  below := ((Below.refl _ _).alloc (Nat.le_refl _) _).alloc (by simp) _
  iter := by simp

set_option maxHeartbeats 400000 in
theorem count_any (s : ByteArray) (w : World) (hs : s.size ≤ 9223372036854775807) : Calls Try.prog 23 #[.string s] w fun e w' => e = .returned (.int .i64 (rest s 0).length) ∧ Below w.heap.size w w' := by
  have hl := rest_len s 0
  have HE := each_any s 40 #[.pointer (some ⟨w.heap.size, 0, none⟩)] enters32 (w.alloc (.cells #[.int .i64 0] 3)) hs (fun _ => true) (fun done W => Own w.heap.size (w.heap.size + 1) w W [(w.heap.size, 0, .int .i64 done.length)])
    (own_start w 3 _ s)
    (fun done W p p' h _ => by have := h.iterAt s p'; simpa using this)
    (fun done r l W he _ h _ => by
      have hlen := congrArg List.length he
      simp only [List.length_append, List.length_cons] at hlen
      have hin : (w.heap.size, 0, Value.int .i64 done.length) ∈ [(w.heap.size, 0, Value.int .i64 done.length)] := List.mem_singleton.2 rfl
      refine (count_step w.heap.size W done.length r.1 r.2.1 r.2.2 (h.low _ hin).2.2 (h.cell _ hin) (h.free _ hin) (by omega) (by omega)).mono fun e W' ⟨he, o, hW⟩ => ?_
      subst hW
      refine ⟨he, ?_, ?_⟩
      · have := (h.set w.heap.size 0 hin (.int .i64 (done.length + 1))).alloc o
        simpa using this
      · have := h.iter.2
        simp only [World.size_alloc]
        rw [iter_alloc (by rw [size_set]; omega), iter_set (by omega)])
  rw [runTo_all, List.nil_append] at HE
  clear hs hl
  go_enter Try.func23, Try.ntmps23
  go_wp2_with (go_at_call 38; refine HE.mono ?_; rintro e W ⟨rfl, hO⟩; have hcW : W.cell? ⟨w.heap.size, 0, none⟩ = some (.int .i64 (rest s 0).length) := hO.cell _ (List.mem_singleton.2 rfl))
  go_ret
  exact ⟨rfl, by have := hO.below; exact this⟩

/-! ### Bad -/
theorem ret_bool {a b : Bool} (h : a = b) : Ending.returned (.bool a) = .returned (.bool b) := by rw [h]
def isBad (r : Rn) : Bool := decide (r.2.2 = 65533) && decide (r.2.1 = 1)
def badOf (l : List Rn) : Int := match l.find? isBad with | some r => r.1 | none => -1

theorem badOf_snoc (l : List Rn) (r : Rn) (h : badOf l < 0) : badOf (l ++ [r]) = if isBad r then (r.1 : Int) else -1 := by
  have hn : l.find? isBad = none := by
    unfold badOf at h
    cases hf : l.find? isBad with
    | none => rfl
    | some r => rw [hf] at h; simp at h; omega
  unfold badOf
  rw [List.find?_append, hn]
  simp only [Option.none_or, List.find?_cons, List.find?_nil]
  cases isBad r <;> rfl

theorem badOf_runTo (l : List Rn) : ∀ done, badOf done < 0 → badOf (runTo (fun d => decide (badOf d < 0)) done l) = badOf (done ++ l) := by
  induction l with
  | nil => intro done _; simp [runTo]
  | cons r l ih =>
    intro done h
    by_cases hb : badOf (done ++ [r]) < 0
    · simp only [runTo, hb, decide_true, if_true]
      rw [ih _ hb]; simp
    · simp only [runTo, hb, decide_false, Bool.false_eq_true, if_false]
      have hs := badOf_snoc done r h
      have hr : isBad r = true := by
        cases hr : isBad r
        · rw [hr] at hs; simp at hs; omega
        · rfl
      have hn : done.find? isBad = none := by
        unfold badOf at h
        cases hf : done.find? isBad with
        | none => rfl
        | some r => rw [hf] at h; simp at h; omega
      rw [hs, hr]
      unfold badOf
      rw [List.find?_append, hn]
      simp [hr]

end Go.Proofs.Ytbgbhogcjaodkaa

/- The walk of List: a new slice of the text's runes. -/
namespace Go.Proofs.Ytbgbhogcjaodkaa
open Go.RowKit

/-- The cells of runes in a slice. -/
def cellsOf (l : List Rn) : List Value := l.flatMap fun r => [.int .i64 r.1, .int .i64 r.2.1, .int .i64 r.2.2]
theorem cellsOf_snoc (l : List Rn) (r : Rn) : cellsOf (l ++ [r]) = cellsOf l ++ [.int .i64 r.1, .int .i64 r.2.1, .int .i64 r.2.2] := by simp [cellsOf]

theorem enters30 : ∀ args w, (callFunc 39 args).run Try.prog w = .ok (.enter 39 args) w := enters_of Try.func39 (by kernel_rfl) rfl

theorem slice_shape {w : World} {base : Nat} {e : TypeId} {size : Nat} {v : Value} {n : Nat} {xs : List Value} (h : w.ownsRow base e size v n xs) : ∃ a c, v = .slice a n c := by
  rcases h.2 with ⟨rfl, rfl⟩ | ⟨g, cap, cur, rfl, _⟩
  · exact ⟨_, _, rfl⟩
  · exact ⟨_, _, rfl⟩

theorem Try.info42 : (Try.prog.info? 42).map (fun i => (i.zero, i.size, i.bytes)) = some (some (.agg #[.int .i64 0, .int .i64 0, .int .i64 0]), 3, 24) := by kernel_rfl

set_option maxHeartbeats 1000000 in
theorem list_step (b : Nat) (W : World) (v : Value) (n : Nat) (xs : List Value) (x y z : Int) (hb : b + 2 ≤ W.heap.size) (hc : W.cell? ⟨b, 0, none⟩ = some v) (hf : W.frozen? ⟨b, 0, none⟩ = false)
    (hown : W.ownsRow (b + 2) 42 3 v n xs) (hn : (n + 1) * 24 ≤ 140737488355328) :
    Calls Try.prog 39 #[.agg #[.int .i64 x, .int .i64 y, .int .i64 z], .pointer (some ⟨b, 0, none⟩)] W fun e W' => e = .returned (.bool true) ∧
      ∃ v', W'.cell? ⟨b, 0, none⟩ = some v' ∧ W'.frozen? ⟨b, 0, none⟩ = false ∧ W'.ownsRow (b + 2) 42 3 v' (n + 1) (xs ++ [.int .i64 x, .int .i64 y, .int .i64 z]) ∧ Below b W W' ∧ W'.heap[b + 1]? = W.heap[b + 1]? := by
  obtain ⟨i0, hi, hz0, hz1, hz2⟩ := info_parts Try.info42
  have hc1 := alloc_cell (by omega) hc
  have hf1 := alloc_frozen (by omega) hf
  have hc2 := fun o => alloc_cell (W := W.alloc o) (by simp; omega) (hc1 o)
  have hf2 := fun o => alloc_frozen (W := W.alloc o) (by simp; omega) (hf1 o)
  obtain ⟨a0, c0, rfl⟩ := slice_shape hown
  go_enter Try.func39, Try.ntmps39
  go_wp2_with (at_builtin; refine wpList_append_own _ rfl _ _ 39 rfl (b + 2) 42 i0 (.agg #[.int .i64 0, .int .i64 0, .int .i64 0]) 3 24 Try.underlying39 hi hz0 hz1 hz2 rfl (by decide) _ _ _ rfl ((hown.alloc _).alloc _) ⟨W.heap.size + 1, 0, none⟩ 1 1 [.int .i64 x, .int .i64 y, .int .i64 z] rfl rfl ?c1 ?c2 ?c3 ?c4 ?c5 ?_)
  case c1 =>
    intro j u hj
    match j, hj with
    | 0, hj => simp at hj; subst hj; simp [Addr.add]
    | 1, hj => simp at hj; subst hj; simp [Addr.add]
    | 2, hj => simp at hj; subst hj; simp [Addr.add]
  case c2 => intro u hu; simp at hu; rcases hu with rfl | rfl | rfl <;> rfl
  case c3 => unfold maxLen; omega
  case c4 => exact hn
  case c5 => simp; omega
  intro v' w1 hown' hgrow _
  obtain ⟨a1, c1, rfl⟩ := slice_shape hown'
  have hne : some b ≠ (Value.slice a0 n c0).ownBlock := fun h => by
    have := (hown.lt b h.symm).1
    omega
  have hne1 : some (b + 1) ≠ (Value.slice a0 n c0).ownBlock := fun h => by
    have := (hown.lt (b + 1) h.symm).1
    omega
  have hbl := hgrow.block b (by simp; omega) hne
  have hbl1 := hgrow.block (b + 1) (by simp; omega) hne1
  have hc3 : w1.cell? ⟨b, 0, none⟩ = some (.slice a0 n c0) := (World.cell?_of_block hbl).trans (hc2 _ _)
  have hf3 : w1.frozen? ⟨b, 0, none⟩ = false := (World.frozen?_of_block hbl).trans (hf2 _ _)
  have hbw : Below b W w1 := (((Below.refl b W).alloc (by omega) _).alloc (by simp; omega) _).grown hgrow (by simp; omega) (fun k hk => by have := (hown.lt k hk).1; omega)
  have HI : Hid (w1.heap[b + 1]? = W.heap[b + 1]?) := by
    show _ = _
    rw [hbl1, iter_alloc (by simp; omega), iter_alloc (by omega)]
  clear hc1 hf1 hc2 hf2 hbl hbl1 hne hne1 hgrow hown hc hf
  go_wp2
  go_ret
  exact ⟨rfl, _, World.cell?_setCell_same _ _ _ hc3, by simpa using hf3, ownsRow_setCell_below hown' (by show b < b + 2; omega) _, hbw.setCell (by exact Nat.le_refl b) _, (iter_set (by omega) _).trans HI.out⟩

theorem own_base {w : World} {base b' : Nat} {e : TypeId} {size : Nat} {v : Value} {n : Nat} {xs : List Value} (h : w.ownsRow base e size v n xs) (hb : b' ≤ base) : w.ownsRow b' e size v n xs := by
  refine ⟨h.1, ?_⟩
  rcases h.2 with h | ⟨g, cap, cur, h1, h2, r⟩
  · exact .inl h
  · exact .inr ⟨g, cap, cur, h1, by omega, r⟩

/-- What the going through keeps: the slice so far. -/
def ListAt (w : World) (done : List Rn) (W : World) : Prop :=
  (∃ v, W.cell? ⟨w.heap.size, 0, none⟩ = some v ∧ W.ownsRow (w.heap.size + 2) 42 3 v done.length (cellsOf done)) ∧ W.frozen? ⟨w.heap.size, 0, none⟩ = false ∧ Below w.heap.size w W ∧ w.heap.size + 2 ≤ W.heap.size

theorem list_size (s : ByteArray) (h : s.size ≤ 1048576) (done : List Rn) (r : Rn) (l : List Rn) (he : rest s 0 = done ++ r :: l) : (done.length + 1) * 24 ≤ 140737488355328 := by
  have h1 := rest_len s 0
  have h2 := congrArg List.length he
  simp only [List.length_append, List.length_cons] at h2
  omega

set_option maxHeartbeats 1000000 in
theorem list_any (s : ByteArray) (w : World) (hs : s.size ≤ 1048576) : Calls Try.prog 22 #[.string s] w fun e w' => ∃ v, e = .returned v ∧ w'.ownsRow w.heap.size 42 3 v (rest s 0).length (cellsOf (rest s 0)) ∧ Below w.heap.size w w' := by
  have HE := each_any s 39 #[.pointer (some ⟨w.heap.size, 0, none⟩)] enters30 (w.alloc (.cells #[.slice none 0 0] 39)) (by omega) (fun _ => true) (ListAt w)
    (by
      have h := own_start w 39 (.slice none 0 0) s
      have hin : (w.heap.size, 0, Value.slice none 0 0) ∈ [(w.heap.size, 0, Value.slice none 0 0)] := List.mem_singleton.2 rfl
      exact ⟨⟨_, h.cell _ hin, World.ownsRow_nil _ _ _ _⟩, h.free _ hin, h.below, by have := h.iter.2; omega⟩)
    (fun done W p p' h _ => by
      obtain ⟨⟨v, h1, h2⟩, h3, h4, h5⟩ := h
      simp only [World.size_alloc]
      refine ⟨⟨v, (World.cell?_of_block (Lib.iterAt_other W _ _ s p' (by simp))).trans h1, ownsRow_iterAt h2 (by omega) s p'⟩, (World.frozen?_of_block (Lib.iterAt_other W _ _ s p' (by simp))).trans h3, Lib.below_iterAt h4 (by omega) s p', by rw [Lib.iterAt_size]; exact h5⟩)
    (fun done r l W he _ h _ => by
      obtain ⟨⟨v, h1, h2⟩, h3, h4, h5⟩ := h
      refine (list_step w.heap.size W v done.length (cellsOf done) r.1 r.2.1 r.2.2 h5 h1 h3 h2 (list_size s hs done r l he)).mono fun e W' ⟨he, v', g1, g2, g3, g4, g5⟩ => ?_
      refine ⟨he, ⟨⟨v', g1, ?_⟩, g2, h4.trans g4, Nat.le_trans h5 g4.size⟩, by simpa using g5⟩
      rw [cellsOf_snoc]
      simpa using g3)
  rw [runTo_all, List.nil_append] at HE
  clear hs
  go_enter Try.func22, Try.ntmps22
  go_wp2_with (go_at_call 38; refine HE.mono ?_; rintro e W ⟨rfl, ⟨v, hcW, hoW⟩, hfW, hbW, hzW⟩)
  go_ret
  exact ⟨v, rfl, own_base hoW (by omega), hbW⟩

#print axioms list_any
end Go.Proofs.Ytbgbhogcjaodkaa

/- The walks of Encode, Letter and Digit, and of 'fixed', the answers that the document fixes. -/
namespace Go.Proofs.Ytbgbhogcjaodkaa
open Go.RowKit

/-- May it be encoded? -/
def encB (r : Int) : Bool := decide (0 ≤ r ∧ r ≤ 1114111 ∧ (r < 55296 ∨ 57343 < r))

set_option maxHeartbeats 400000 in
theorem encodes_any (r : Int) (w : World) : Calls Try.prog 44 #[.int .i64 r] w fun e w' => e = .returned (.bool (encB r)) ∧ w' = w := by
  go_enter Try.func44, Try.ntmps44
  go_wp2
  all_goals (go_ret; exact ⟨ret_bool (by first | (simp [encB]; done) | (simp [encB]; omega) | (rw [Bool.eq_iff_iff]; simp [encB]; omega)), rfl⟩)
set_option maxHeartbeats 400000 in
theorem good_any (r : Int) (w : World) : Calls Try.prog 42 #[.int .i64 r] w fun e w' => e = .returned (.bool (encB r)) ∧ w' = w := by
  go_enter Try.func42, Try.ntmps42
  go_wp2
  all_goals (go_ret; exact ⟨ret_bool (by first | (simp [encB]; done) | (simp [encB]; omega) | (rw [Bool.eq_iff_iff]; simp [encB]; omega)), rfl⟩)

def encS (r : Int) : ByteArray := if encB r = true then Utf8.encode r else ⟨#[]⟩
def encE (r : Int) : Int := if encB r = true then 0 else 3
theorem ret_si {a b : ByteArray} {c d : Int} (h : a = b) (h' : c = d) : Ending.returned (.tuple #[.string a, .int .i64 c]) = .returned (.tuple #[.string b, .int .i64 d]) := by rw [h, h']

set_option maxHeartbeats 400000 in
theorem encode_any (r : Int) (w : World) : Calls Try.prog 31 #[.int .i64 r] w fun e w' => e = .returned (.tuple #[.string (encS r), .int .i64 (encE r)]) ∧ w' = w := by
  cases h : encB r
  · have h1 : encS r = ⟨#[]⟩ := by simp [encS, h]
    have h2 : encE r = 3 := by simp [encE, h]
    rw [h1, h2]
    clear h1 h2
    go_enter Try.func31, Try.ntmps31
    go_wp2_with (go_at_call 44; refine (encodes_any _ _).mono ?_; rintro e w' ⟨rfl, rfl⟩)
    go_ret2
    exact ⟨rfl, rfl⟩
  · have h1 : encS r = Utf8.encode r := by simp [encS, h]
    have h2 : encE r = 0 := by simp [encE, h]
    rw [h1, h2]
    clear h1 h2
    have hb : 0 ≤ r ∧ r ≤ 1114111 := by simp [encB] at h; omega
    obtain ⟨hb0, hb1⟩ := hb
    go_enter Try.func31, Try.ntmps31
    go_wp2_with (go_at_call 44; refine (encodes_any _ _).mono ?_; rintro e w' ⟨rfl, rfl⟩)
    go_ret2
    exact ⟨rfl, rfl⟩

/-- A row of the call's own that is not empty, cell by cell. -/
theorem row_cells {w : World} {base : Nat} {e : TypeId} {size : Nat} {v : Value} {n : Nat} {xs : List Value} (h : w.ownsRow base e size v n xs) (hn : n ≠ 0) :
    ∃ g cap, v = .slice (some ⟨g, 0, none⟩) n cap ∧ base ≤ g ∧ g < w.heap.size ∧ n ≤ cap ∧ ∀ j u, xs[j]? = some u → w.cell? ⟨g, j, none⟩ = some u := by
  have hlt := h.lt
  have hcs := fun g => h.cells (g := g)
  rcases h.2 with ⟨_, rfl⟩ | ⟨g, cap, cur, rfl, h2, _, h4, _⟩
  · exact absurd rfl hn
  · refine ⟨g, cap, rfl, h2, (hlt g rfl).2, h4, fun j u hj => ?_⟩
    have := hcs g rfl j u hj
    by_cases hj0 : j = 0
    · subst hj0; simpa [Addr.add] using this
    · simpa [Addr.add, hj0] using this

theorem rest_fix : rest { data := #[97, 195, 169, 255] } 0 = [(0, 1, 97), (1, 2, 233), (3, 1, 65533)] := by
  rw [rest_at _ _ (by decide), show wd { data := #[97, 195, 169, 255] } 0 = 1 from rfl, show rn { data := #[97, 195, 169, 255] } 0 = 97 from rfl]
  rw [rest_at _ _ (by decide), show wd { data := #[97, 195, 169, 255] } (0 + 1) = 2 from rfl, show rn { data := #[97, 195, 169, 255] } (0 + 1) = 233 from rfl]
  rw [rest_at _ _ (by decide), show wd { data := #[97, 195, 169, 255] } (0 + 1 + 2) = 1 from rfl, show rn { data := #[97, 195, 169, 255] } (0 + 1 + 2) = 65533 from rfl]
  rw [rest_end _ _ (by decide)]
theorem bad_fix : badOf (rest { data := #[195, 169, 255] } 0) = 2 := by
  rw [rest_at _ _ (by decide), show wd { data := #[195, 169, 255] } 0 = 2 from rfl, show rn { data := #[195, 169, 255] } 0 = 233 from rfl]
  rw [rest_at _ _ (by decide), show wd { data := #[195, 169, 255] } (0 + 2) = 1 from rfl, show rn { data := #[195, 169, 255] } (0 + 2) = 65533 from rfl]
  rw [rest_end _ _ (by decide)]
  rfl
theorem enc_fix : encS 8364 = { data := #[226, 130, 172] } ∧ encE 8364 = 0 := ⟨rfl, rfl⟩

/-! ### Letter and Digit -/
def letB (r : Int) : Bool := decide ((97 ≤ r ∧ r ≤ 122) ∨ (65 ≤ r ∧ r ≤ 90) ∨ r = 95 ∨ (128 ≤ r ∧ r ≠ 65533 ∧ encB r = true))
def digB (r : Int) : Bool := decide (48 ≤ r ∧ r ≤ 57)
end Go.Proofs.Ytbgbhogcjaodkaa
