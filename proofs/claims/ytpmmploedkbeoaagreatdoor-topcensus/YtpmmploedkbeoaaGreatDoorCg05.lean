/- Lists of whole numbers in memory; the walks of few, of the comparison, of areCounts and of both Chooses. -/
import Derived.Test.YtpmmploedkbeoaaGreatDoorProg
import Derived.WalkKit
import Derived.WalkSpells
import Derived.Below
import Derived.MapKept
import Derived.RegionTactic
import Derived.Laws.BitsAllLaws
import Derived.Laws.MakeOwn
import Derived.OwnWalk
import Derived.Tactics
import Derived.Tactics2
import Derived.LoopTactic
import Derived.Shelf.Strconv.Itoa0
import Derived.Shelf.Sort.Plain
import Derived.Ground.Names2Prog
import Derived.Shelf.Slices.Clone
import Derived.Shelf.Slices.In.SortNone
import Derived.Lib.ItoaNum
import Derived.Lib.BitFns
import Derived.Sort.OwnSortedInts
namespace Go.Proofs.YtpmmploedkbeoaaGreatDoor.C
open Go.RowKit

/-- The value reads as the list, in a block below N. -/
def Ints (N : Nat) (w : World) (v : Value) (l : List Int) : Prop :=
  ∃ a cap, v = .slice a l.length cap ∧ l.length ≤ cap ∧ (l ≠ [] → ∃ b off, a = some ⟨b, off, none⟩ ∧ b < N ∧ ∀ i, i < l.length → w.cell? ⟨b, off + i, none⟩ = some (.int .i64 (l.getD i 0)))

theorem Ints.below {N : Nat} {w w' : World} {v : Value} {l : List Int} (h : Ints N w v l) (hb : Below N w w') : Ints N w' v l := by
  obtain ⟨a, cap, rfl, hc, h⟩ := h
  refine ⟨a, cap, rfl, hc, fun hl => ?_⟩
  obtain ⟨b, off, rfl, hg, hx⟩ := h hl
  exact ⟨b, off, rfl, hg, fun i hi => by rw [hb.cell (by exact hg)]; exact hx i hi⟩
theorem Ints.mono {N N' : Nat} {w : World} {v : Value} {l : List Int} (h : Ints N w v l) (hN : N ≤ N') : Ints N' w v l := by
  obtain ⟨a, cap, rfl, hc, h⟩ := h
  refine ⟨a, cap, rfl, hc, fun hl => ?_⟩
  obtain ⟨b, off, rfl, hg, hx⟩ := h hl
  exact ⟨b, off, rfl, by omega, hx⟩
theorem Ints.go {w w' : World} {v : Value} {l : List Int} (h : Ints w.heap.size w v l) (hb : Below w.heap.size w w') : Ints w'.heap.size w' v l := (h.below hb).mono hb.size
theorem bthen {N : Nat} {w w1 w2 : World} (h : Below N w w1) (hN : N ≤ w1.heap.size) (h2 : Below w1.heap.size w1 w2) : Below N w w2 := h.trans (h2.mono hN)

theorem retB {x b : Bool} (h : x = b) : Ending.returned (.bool b) = .returned (.bool x) := by rw [h]
theorem ret1 {a b : Int} (h : a = b) : Ending.returned (.int .i64 a) = .returned (.int .i64 b) := by rw [h]
theorem ret2 {a b c d : Int} (h : a = b) (h2 : c = d) : Ending.returned (.tuple #[.int .i64 a, .int .i64 c]) = .returned (.tuple #[.int .i64 b, .int .i64 d]) := by rw [h, h2]
theorem ret3 {a b c d e f : Int} (h : a = b) (h2 : c = d) (h3 : e = f) : Ending.returned (.tuple #[.int .i64 a, .int .i64 c, .int .i64 e]) = .returned (.tuple #[.int .i64 b, .int .i64 d, .int .i64 f]) := by rw [h, h2, h3]

/-! ### few -/
theorem fewLen (l : List Int) : (l.take 3000).length ≤ 3000 := by simp; omega

/-! ### Choose -/
def okC (l : List Int) : Bool := l.length == 17 && l.all (fun n => decide (0 ≤ n ∧ n ≤ 4294967296))
def pre (l : List Int) (k : Nat) : Int := (l.take k).sum
def chA (l : List Int) : Nat → Int
  | 0 => 0
  | k + 1 => if 2 ^ k < 2 * pre l (k + 1) then 2 ^ k else chA l k
def chN (l : List Int) : Nat → Int
  | 0 => 0
  | k + 1 => if 2 ^ k < 2 * pre l (k + 1) then pre l (k + 1) else chN l k
def chE (l : List Int) : Int := if okC l then 0 else 2
def chA' (l : List Int) : Int := if okC l then chA l 17 else 0
def chN' (l : List Int) : Int := if okC l then chN l 17 else 0

theorem pre_succ (l : List Int) (k : Nat) (h : k < l.length) : pre l (k + 1) = pre l k + l.getD k 0 := by
  have e : l.take (k + 1) = l.take k ++ [l.getD k 0] := by
    rw [List.take_add_one, List.getD, List.getElem?_eq_getElem h]; rfl
  unfold pre
  rw [e, List.sum_append]
  simp
theorem okC_get {l : List Int} (h : okC l = true) (k : Nat) (hk : k < 17) : 0 ≤ l.getD k 0 ∧ l.getD k 0 ≤ 4294967296 := by
  simp only [okC, Bool.and_eq_true, beq_iff_eq, List.all_eq_true, decide_eq_true_eq] at h
  have hk' : k < l.length := by omega
  rw [List.getD, List.getElem?_eq_getElem hk']
  exact h.2 _ (List.getElem_mem hk')
theorem okC_len {l : List Int} (h : okC l = true) : l.length = 17 := by
  simp only [okC, Bool.and_eq_true, beq_iff_eq] at h
  exact h.1
theorem pre_bound {l : List Int} (h : okC l = true) (k : Nat) (hk : k ≤ 17) : 0 ≤ pre l k ∧ pre l k ≤ k * 4294967296 := by
  induction k with
  | zero => simp [pre]
  | succ k ih =>
    have h1 := ih (by omega)
    have h2 := okC_get h k (by omega)
    rw [pre_succ l k (by rw [okC_len h]; omega)]
    omega
theorem pow_int (k : Nat) : ((2 ^ k : Nat) : Int) = (2 : Int) ^ k := by simp
theorem wrap64_id (x : Int) (h0 : -9223372036854775808 ≤ x) (h1 : x ≤ 9223372036854775807) : wrap64 x = x := by unfold wrap64; omega
theorem pow_fit (k : Nat) (h : k ≤ 62) : wrap64 (2 ^ k) = 2 ^ k := by
  have h1 := Nat.pow_le_pow_right (n := 2) (by omega) h
  have h2 := pow_int k
  rw [← h2]
  generalize 2 ^ k = P at h1
  exact wrap64_id _ (by omega) (by omega)
theorem pow16 (k : Nat) (h : k ≤ 16) : (1 : Int) ≤ 2 ^ k ∧ (2 : Int) ^ k ≤ 65536 := by
  have h1 := Nat.pow_le_pow_right (n := 2) (by omega) h
  have h2 := pow_int k
  have h3 : 0 < 2 ^ k := Nat.two_pow_pos k
  omega

set_option maxRecDepth 20000 in
set_option maxHeartbeats 1000000 in
theorem are_any (l : List Int) (v : Value) (w : World) (h : Ints w.heap.size w v l) :
    Calls Tryz.prog 287 #[v] w fun e w' => e = .returned (.bool (okC l)) ∧ w' = w := by
  obtain ⟨a, cap, rfl, hcap, h⟩ := h
  by_cases hlen : l.length = 17
  · have HC : Hid _ := h
    have HL : Hid (l ≠ []) := by intro q; rw [q] at hlen; simp at hlen
    have HY : Hid (∀ k, k < 17 → (∀ j, j < k → 0 ≤ l.getD j 0 ∧ l.getD j 0 ≤ 4294967296) → ¬ (0 ≤ l.getD k 0 ∧ l.getD k 0 ≤ 4294967296) → okC l = false) := by
      intro k hk _ hx
      rw [Bool.eq_false_iff]
      intro q
      exact hx (okC_get q k hk)
    have HN : Hid ((∀ j, j < 17 → 0 ≤ l.getD j 0 ∧ l.getD j 0 ≤ 4294967296) → okC l = true) := by
      intro q
      simp only [okC, Bool.and_eq_true, beq_iff_eq, List.all_eq_true, decide_eq_true_eq]
      refine ⟨hlen, fun x hx => ?_⟩
      obtain ⟨j, hj, rfl⟩ := List.getElem_of_mem hx
      have := q j (by omega)
      rwa [List.getD, List.getElem?_eq_getElem hj] at this
    clear h hcap
    rw [hlen] at HC ⊢
    clear hlen
    go_enter Tryz.func287, Tryz.ntmps287
    go_wp2
    go_loop [10] (fun i => ∃ k : Nat, i = .int .i64 k ∧ k ≤ 17 ∧ Hid (∀ j, j < k → 0 ≤ l.getD j 0 ∧ l.getD j 0 ≤ 4294967296)) (fun i => 17 - (intOf i).toNat)
    case atStart => exact ⟨0, rfl, by omega, fun j hj => absurd hj (by omega)⟩
    case round =>
      obtain ⟨k, rfl, hk, HT⟩ := hrel
      by_cases hlt : k < 17
      · obtain ⟨g, off, rfl, hg, hc⟩ := HC.out HL.out
        have c1 := hc k hlt
        have hlt' : (k : Int) < 17 := by omega
        clear hc
        have HX : Hid (0 ≤ l.getD k 0 ∧ l.getD k 0 ≤ 4294967296 → ∀ j, j < k + 1 → 0 ≤ l.getD j 0 ∧ l.getD j 0 ≤ 4294967296) := by
          intro q j hj
          by_cases hjk : j = k
          · subst hjk; exact q
          · exact HT.out j (by omega)
        have HZ : Hid (¬ (0 ≤ l.getD k 0 ∧ l.getD k 0 ≤ 4294967296) → okC l = false) := HY.out k hlt HT.out
        generalize l.getD k 0 = x at c1 HX HZ
        by_cases h1 : x < 0
        · have HF : Hid (okC l = false) := HZ.out (by omega)
          go_wp2
          go_ret
          exact ⟨retB HF.out, rfl⟩
        · by_cases h2 : 4294967296 < x
          · have HF : Hid (okC l = false) := HZ.out (by omega)
            go_wp2
            go_ret
            exact ⟨retB HF.out, rfl⟩
          · have HX2 := HX.out (by omega)
            have HT2 : Hid _ := HX2
            clear HX2 HX HZ
            go_wp2
            go_round
            case rel => exact ⟨k + 1, by go_num, by omega, HT2⟩
            case measure => simp [intOf]; omega
      · obtain rfl : k = 17 := by omega
        go_wp2
        go_ret
        exact ⟨retB (HN.out HT.out), rfl⟩
  · have HN : Hid (okC l = false) := by
      rw [show (okC l = false) = _ from rfl, Bool.eq_false_iff]
      intro q; exact hlen (okC_len q)
    clear h hcap
    have hlen' : ¬ (l.length : Int) = 17 := by omega
    generalize l.length = L at *
    go_enter Tryz.func287, Tryz.ntmps287
    go_wp2
    go_ret
    exact ⟨retB HN.out, rfl⟩

theorem chA_succ (l : List Int) (k : Nat) : chA l (k + 1) = if 2 ^ k < 2 * pre l (k + 1) then 2 ^ k else chA l k := rfl
theorem chN_succ (l : List Int) (k : Nat) : chN l (k + 1) = if 2 ^ k < 2 * pre l (k + 1) then pre l (k + 1) else chN l k := rfl

set_option maxRecDepth 20000 in
set_option maxHeartbeats 1000000 in
theorem choose_ok (l : List Int) (v : Value) (w : World) (h : Ints w.heap.size w v l) (hok : okC l = true) :
    Calls Tryz.prog 223 #[v] w fun e w' => e = .returned (.tuple #[.int .i64 (chA l 17), .int .i64 (chN l 17), .int .i64 0]) ∧ w' = w := by
  have C1 := are_any l v w h
  rw [hok] at C1
  obtain ⟨a, cap, rfl, hcap, h⟩ := h
  have HC : Hid _ := h
  have HL : Hid (l ≠ []) := by intro q; have := okC_len hok; rw [q] at this; simp at this
  have HG : Hid (∀ k, k < 17 → 0 ≤ l.getD k 0 ∧ l.getD k 0 ≤ 4294967296) := fun k hk => okC_get hok k hk
  have HB : Hid (∀ k, k ≤ 17 → 0 ≤ pre l k ∧ pre l k ≤ k * 4294967296) := fun k hk => pre_bound hok k hk
  have HS : Hid (∀ k, k < 17 → pre l (k + 1) = pre l k + l.getD k 0) := fun k hk => pre_succ l k (by rw [okC_len hok]; exact hk)
  clear h hcap
  rw [okC_len hok] at HC C1 ⊢
  clear hok
  go_enter Tryz.func223, Tryz.ntmps223
  go_wp2_with (go_at_call 287; refine C1.mono ?_; rintro e w' ⟨rfl, rfl⟩)
  go_loop [5, 6, 7, 16] (fun a n s i => ∃ k : Nat, i = .int .i64 k ∧ k ≤ 17 ∧ ∃ x y z : Int, a = .int .i64 x ∧ n = .int .i64 y ∧ s = .int .i64 z ∧ Hid (x = chA l k ∧ y = chN l k ∧ z = pre l k)) (fun _ _ _ i => 17 - (intOf i).toNat)
  case atStart => exact ⟨0, rfl, by omega, 0, 0, 0, rfl, rfl, rfl, rfl, rfl, rfl⟩
  case round =>
    obtain ⟨k, rfl, hk, A, N, S, rfl, rfl, rfl, HT⟩ := hrel
    by_cases hlt : k < 17
    · obtain ⟨g, off, rfl, hg, hc⟩ := HC.out HL.out
      have c1 := hc k hlt
      have hlt' : (k : Int) < 17 := by omega
      clear hc
      have hx := HG.out k hlt
      have hS := HB.out k (by omega)
      rw [← HT.out.2.2] at hS
      have hS1 : S ≤ 73014444032 := by
        have := hS.2
        have : (k : Int) * 4294967296 ≤ 17 * 4294967296 := Int.mul_le_mul_of_nonneg_right (by omega) (by omega)
        omega
      have HN : Hid (pre l (k + 1) = S + l.getD k 0) := by rw [HT.out.2.2]; exact HS.out k hlt
      have hp := pow_fit k (by omega)
      have hp2 := pow16 k (by omega)
      have HA : Hid (∀ P : Int, (2 : Int) ^ k = P → P < 2 * (S + l.getD k 0) → P = chA l (k + 1) ∧ S + l.getD k 0 = chN l (k + 1) ∧ S + l.getD k 0 = pre l (k + 1)) := by
        intro P hP hq
        rw [chA_succ, chN_succ, HN.out, hP, if_pos hq, if_pos hq]
        exact ⟨rfl, rfl, rfl⟩
      have HB : Hid (∀ P : Int, (2 : Int) ^ k = P → ¬ P < 2 * (S + l.getD k 0) → A = chA l (k + 1) ∧ N = chN l (k + 1) ∧ S + l.getD k 0 = pre l (k + 1)) := by
        intro P hP hq
        rw [chA_succ, chN_succ, HN.out, hP, if_neg hq, if_neg hq]
        exact ⟨HT.out.1, HT.out.2.1, rfl⟩
      have hS0 := hS.1
      clear hS HN HT
      generalize l.getD k 0 = x at *
      by_cases hq : (2 : Int) ^ k < 2 * (S + x)
      · have HR : Hid _ := HA.out _ rfl hq
        clear HA HB
        go_wp2
        go_round
        case rel => exact ⟨k + 1, by go_num, by omega, _, _, _, rfl, rfl, rfl, HR⟩
        case measure => simp [intOf]; omega
      · have HR : Hid _ := HB.out _ rfl hq
        clear HA HB
        go_wp2
        go_round
        case rel => exact ⟨k + 1, by go_num, by omega, _, _, _, rfl, rfl, rfl, HR⟩
        case measure => simp [intOf]; omega
    · obtain rfl : k = 17 := by omega
      go_wp2
      go_ret3
      exact ⟨ret3 HT.out.1 HT.out.2.1 rfl, rfl⟩

set_option maxRecDepth 20000 in
set_option maxHeartbeats 1000000 in
theorem choose_bad (l : List Int) (v : Value) (w : World) (h : Ints w.heap.size w v l) (hok : okC l = false) :
    Calls Tryz.prog 223 #[v] w fun e w' => e = .returned (.tuple #[.int .i64 0, .int .i64 0, .int .i64 2]) ∧ w' = w := by
  have C1 := are_any l v w h
  rw [hok] at C1
  obtain ⟨a, cap, rfl, hcap, h⟩ := h
  clear h hcap hok
  generalize l.length = L at *
  go_enter Tryz.func223, Tryz.ntmps223
  go_wp2_with (go_at_call 287; refine C1.mono ?_; rintro e w' ⟨rfl, rfl⟩)
  go_ret3
  exact ⟨rfl, rfl⟩

theorem choose_any (l : List Int) (v : Value) (w : World) (h : Ints w.heap.size w v l) :
    Calls Tryz.prog 223 #[v] w fun e w' => e = .returned (.tuple #[.int .i64 (chA' l), .int .i64 (chN' l), .int .i64 (chE l)]) ∧ w' = w := by
  unfold chA' chN' chE
  cases hok : okC l
  · exact choose_bad l v w h hok
  · exact choose_ok l v w h hok

end Go.Proofs.YtpmmploedkbeoaaGreatDoor.C

/-
  DERIVED: THE SHELF's CONTRACTS AT THIS DUMP, IN PLAIN WORDS (tools/lay-plain.mjs out of 'TryShelf.lean', which tools/lay-shelf.mjs wrote): THE SAME DECLARATIONS UNDER THE SAME NAMES: 'import', 'namespace', 'open', 'def', 'theorem' AND NOTHING ELSE: no command of the shelf's: FOR A HAND-IN. Each laying: the table of numbers ('.._ren') and one theorem, a field a fact of the dump's own or the kernel's comparison; each contract: ONE APPLICATION.
-/
namespace Go.Proofs
open Go.Shelf
def Tryz.lays129_ren : Go.Shelf.Ren := ⟨fun | 129 => 214 | n => n, fun | 53 => 288 | 3 => 3 | 4 => 4 | 46 => 351 | 5 => 5 | 9 => 9 | n => n, fun | n => n⟩
theorem Tryz.lays129 : Go.Proofs.Lays.n129 Tryz.prog Tryz.lays129_ren := {
  mixed := by kernel_rfl
  f129 := Tryz.func214.trans (congrArg some (by kernel_rfl))
  t3 := Tryz.underlying3
  a3 := Tryz.isAgg3
  z3 := Tryz.sizeOf3
  v3 := Tryz.zeroValue3
  t4 := Tryz.underlying4
  a4 := Tryz.isAgg4
  z4 := Tryz.sizeOf4
  v4 := Tryz.zeroValue4
  t5 := Tryz.underlying5
  a5 := Tryz.isAgg5
  z5 := Tryz.sizeOf5
  v5 := Tryz.zeroValue5
  t9 := Tryz.underlying9
  a9 := Tryz.isAgg9
  z9 := Tryz.sizeOf9
  v9 := Tryz.zeroValue9
  t46 := Tryz.underlying351
  a46 := Tryz.isAgg351
  z46 := Tryz.sizeOf351
  v46 := Tryz.zeroValue351
  t53 := Tryz.underlying288
  a53 := Tryz.isAgg288
  z53 := Tryz.sizeOf288
  v53 := Tryz.zeroValue288 }
/-- bits.Len64: "Len64 returns the minimum number of bits required to represent x; the result is 0 for x == 0.": IT RETURNS 'Lib.bitLen x'; the world is as it was. ('h0', 'h1': x is a uint64.) (LAID: no walk: one application.) -/
theorem Tryz.bits_Len64 (x : Int) (w : World) (h0 : 0 ≤ x) (h1 : x ≤ 18446744073709551615) :
    Calls Tryz.prog 214 #[.int .u64 x] w fun e w' => e = .returned (.int .i64 (Lib.bitLen x.toNat)) ∧ w' = w := Any.bits_Len64 Tryz.lays129 x w h0 h1
def Tryz.lays189_ren : Go.Shelf.Ren := ⟨fun | 189 => 286 | 125 => 327 | 257 => 326 | 128 => 358 | 129 => 214 | 294 => 349 | 295 => 350 | 296 => 351 | 297 => 352 | 298 => 353 | 299 => 354 | 216 => 355 | 300 => 356 | 301 => 357 | 328 => 369 | 329 => 370 | 330 => 371 | 331 => 372 | 332 => 373 | 215 => 374 | 343 => 379 | n => n, fun | 28 => 170 | 3 => 3 | 46 => 351 | 0 => 0 | 51 => 352 | 53 => 288 | 4 => 4 | 183 => 399 | 182 => 398 | 131 => 404 | 5 => 5 | 9 => 9 | 218 => 413 | 222 => 417 | 228 => 419 | 229 => 200 | n => n, fun | n => n⟩
theorem Tryz.lays189 : Go.Proofs.Lays.n189 Tryz.prog Tryz.lays189_ren := {
  mixed := by kernel_rfl
  f125 := Tryz.func327.trans (congrArg some (by kernel_rfl))
  f128 := Tryz.func358.trans (congrArg some (by kernel_rfl))
  f129 := Tryz.func214.trans (congrArg some (by kernel_rfl))
  f189 := Tryz.func286.trans (congrArg some (by kernel_rfl))
  f215 := Tryz.func374.trans (congrArg some (by kernel_rfl))
  f216 := Tryz.func355.trans (congrArg some (by kernel_rfl))
  f257 := Tryz.func326.trans (congrArg some (by kernel_rfl))
  f294 := Tryz.func349.trans (congrArg some (by kernel_rfl))
  f295 := Tryz.func350.trans (congrArg some (by kernel_rfl))
  f296 := Tryz.func351.trans (congrArg some (by kernel_rfl))
  f297 := Tryz.func352.trans (congrArg some (by kernel_rfl))
  f298 := Tryz.func353.trans (congrArg some (by kernel_rfl))
  f299 := Tryz.func354.trans (congrArg some (by kernel_rfl))
  f300 := Tryz.func356.trans (congrArg some (by kernel_rfl))
  f301 := Tryz.func357.trans (congrArg some (by kernel_rfl))
  f328 := Tryz.func369.trans (congrArg some (by kernel_rfl))
  f329 := Tryz.func370.trans (congrArg some (by kernel_rfl))
  f330 := Tryz.func371.trans (congrArg some (by kernel_rfl))
  f331 := Tryz.func372.trans (congrArg some (by kernel_rfl))
  f332 := Tryz.func373.trans (congrArg some (by kernel_rfl))
  f343 := Tryz.func379.trans (congrArg some (by kernel_rfl))
  t0 := Tryz.underlying0
  a0 := Tryz.isAgg0
  z0 := Tryz.sizeOf0
  v0 := Tryz.zeroValue0
  t3 := Tryz.underlying3
  a3 := Tryz.isAgg3
  z3 := Tryz.sizeOf3
  v3 := Tryz.zeroValue3
  t4 := Tryz.underlying4
  a4 := Tryz.isAgg4
  z4 := Tryz.sizeOf4
  v4 := Tryz.zeroValue4
  t5 := Tryz.underlying5
  a5 := Tryz.isAgg5
  z5 := Tryz.sizeOf5
  v5 := Tryz.zeroValue5
  t9 := Tryz.underlying9
  a9 := Tryz.isAgg9
  z9 := Tryz.sizeOf9
  v9 := Tryz.zeroValue9
  t28 := Tryz.underlying170
  a28 := Tryz.isAgg170
  z28 := Tryz.sizeOf170
  v28 := Tryz.zeroValue170
  t46 := Tryz.underlying351
  a46 := Tryz.isAgg351
  z46 := Tryz.sizeOf351
  v46 := Tryz.zeroValue351
  t51 := Tryz.underlying352
  a51 := Tryz.isAgg352
  z51 := Tryz.sizeOf352
  v51 := Tryz.zeroValue352
  t53 := Tryz.underlying288
  a53 := Tryz.isAgg288
  z53 := Tryz.sizeOf288
  v53 := Tryz.zeroValue288
  t131 := Tryz.underlying404
  a131 := Tryz.isAgg404
  z131 := Tryz.sizeOf404
  v131 := Tryz.zeroValue404
  t182 := Tryz.underlying398
  a182 := Tryz.isAgg398
  z182 := Tryz.sizeOf398
  v182 := Tryz.zeroValue398
  t183 := Tryz.underlying399
  a183 := Tryz.isAgg399
  z183 := Tryz.sizeOf399
  v183 := Tryz.zeroValue399
  t218 := Tryz.underlying413
  a218 := Tryz.isAgg413
  z218 := Tryz.sizeOf413
  v218 := Tryz.zeroValue413
  t222 := Tryz.underlying417
  a222 := Tryz.isAgg417
  z222 := Tryz.sizeOf417
  v222 := Tryz.zeroValue417
  t228 := Tryz.underlying419
  a228 := Tryz.isAgg419
  z228 := Tryz.sizeOf419
  v228 := Tryz.zeroValue419
  t229 := Tryz.underlying200
  a229 := Tryz.isAgg200
  z229 := Tryz.sizeOf200
  v229 := Tryz.zeroValue200 }
open Go.Sort Go.RowKit in
theorem Tryz.slices_Sort_int (blk off cap : Nat) (zs : List Int) (w : World) (hH : Holds (Value.int .i64) w blk off zs.toArray) (hblk : blk < w.heap.size) (hsz : zs.length < 4611686018427387904) :
    Calls Tryz.prog 286 #[.slice (some ⟨blk, off, none⟩) zs.length cap] w fun e w' =>
      e = .returned (.tuple #[]) ∧ ∃ n os, w' = grow (putRow (Value.int .i64) (Sort.ahead w n) blk off (zs.mergeSort fun x y => decide (x ≤ y)).toArray) os := Any.slices_Sort_int Tryz.lays189 blk off cap zs w hH hblk hsz
def Tryz.laysNm215_ren : Go.Shelf.Ren := ⟨fun | 15 => 285 | n => n, fun | 22 => 170 | 3 => 3 | 4 => 4 | n => n, fun | n => n⟩
theorem Tryz.laysNm215 : Go.Proofs.Lays2.n15 Tryz.prog Tryz.laysNm215_ren := {
  mixed := by kernel_rfl
  f15 := Tryz.func285.trans (congrArg some (by kernel_rfl))
  t3 := Tryz.underlying3
  a3 := Tryz.isAgg3
  z3 := Tryz.sizeOf3
  v3 := Tryz.zeroValue3
  t4 := Tryz.underlying4
  a4 := Tryz.isAgg4
  z4 := Tryz.sizeOf4
  v4 := Tryz.zeroValue4
  t22 := Tryz.underlying170
  a22 := Tryz.isAgg170
  z22 := Tryz.sizeOf170
  v22 := Tryz.zeroValue170
  i3 := by kernel_rfl }
open Go.RowKit Go.Lib in
/-- slices.Clone at []int: "Clone returns a copy of the slice. The elements are copied using assignment, so this is a shallow clone. The result may have additional unused capacity. The result preserves the nilness of s.": OF A SLICE THAT IS NOT nil IT RETURNS A SLICE THAT IS NOT nil, OF THE SAME ELEMENTS, IN MEMORY OF THE CALL's OWN: in the how-to's words (6f): 'w'.ownsRow B e 1 v' n cells': v' begins at the head of a row among the blocks from B on (B: the heap's size at the call), not frozen, whose first cells are the elements · 'Below B w w'': below B all is as it was. The capacity is whatever the run-time gives. 'zs': what the cells behind the slice's address hold; 'zs.take n': its elements. (LAID: no walk: one application.) -/
theorem Tryz.slices_Clone_int (b off n c : Nat) (zs : List Int) (w : World) (hz : n ≤ zs.length) (hbig : n * 8 ≤ 140737488355328) (hc : ∀ j, j < zs.length → w.cell? ⟨b, off + j, none⟩ = some (.int .i64 (zs.getD j 0))) :
    Calls Tryz.prog 285 #[.slice (some ⟨b, off, none⟩) n c] w fun e w' => ∃ v', e = .returned v' ∧ w'.ownsRow w.heap.size 3 1 v' n ((zs.take n).map (Value.int .i64)) ∧ v' ≠ .slice none 0 0 ∧ Below w.heap.size w w' := Any.slices_Clone_int Tryz.laysNm215 b off n c zs w hz hbig hc
open Go.RowKit Go.Lib in
/-- The same at nil: nil comes back; the world is as it was. (LAID: no walk: one application.) -/
theorem Tryz.slices_Clone_int_nil (n c : Nat) (w : World) :
    Calls Tryz.prog 285 #[.slice none n c] w fun e w' => e = .returned (.slice none 0 0) ∧ w' = w := Any.slices_Clone_int_nil Tryz.laysNm215 n c w
open Go.RowKit Go.Lib in
/-- The same at a slice of length 0 that is not nil, WHATEVER ITS ADDRESS (no cell is asked for): a slice that is not nil and owns nothing comes back. (LAID: no walk: one application.) -/
theorem Tryz.slices_Clone_int_zero (a : Addr) (c : Nat) (w : World) :
    Calls Tryz.prog 285 #[.slice (some a) 0 c] w fun e w' => ∃ v', e = .returned v' ∧ w'.ownsRow w.heap.size 3 1 v' 0 [] ∧ v' ≠ .slice none 0 0 ∧ Below w.heap.size w w' := Any.slices_Clone_int_zero Tryz.laysNm215 a c w
open Go.RowKit Go.Sort in
/-- .. and plain. (LAID: no walk: one application.) -/
theorem Tryz.slices_Sort_int_none (p : Option Addr) (cap : Nat) (w : World) :
    Calls Tryz.prog 286 #[.slice p 0 cap] w fun e w' => e = .returned (.tuple #[]) ∧ w' = w := Any.slices_Sort_int_none Tryz.lays189 p cap w
end Go.Proofs

/- The slices of keys and their counts: the walks of Log2, of both Slices, of both Counts, of Ceil2. -/
namespace Go.Proofs.YtpmmploedkbeoaaGreatDoor.C
open Go.RowKit

def lgN (n : Int) : Nat := Lib.bitLen (n.toNat - 1)
def lg (n : Int) : Int := if n < 1 then -1 else lgN n

theorem lgN_spec (n : Int) (h0 : 1 ≤ n) (h1 : n ≤ 9223372036854775807) : n.toNat ≤ 2 ^ lgN n ∧ (lgN n = 0 ∨ 2 ^ (lgN n - 1) < n.toNat) ∧ lgN n ≤ 63 := by
  unfold lgN Lib.bitLen
  have hle := Lib.bitLen_le (n.toNat - 1) 63 (by omega) (by omega)
  unfold Lib.bitLen at hle
  by_cases hz : n.toNat - 1 = 0
  · rw [hz, Lib.bitLenAux_zero]
    exact ⟨by omega, .inl rfl, by omega⟩
  · obtain ⟨a, b, c⟩ := Lib.bitLenAux_bounds 64 (n.toNat - 1) (by omega) hz
    exact ⟨by omega, .inr (by omega), hle⟩

theorem lgN_unique (n : Int) (k : Nat) (h0 : 1 ≤ n) (h1 : n ≤ 9223372036854775807) (ha : n.toNat ≤ 2 ^ k) (hb : k = 0 ∨ 2 ^ (k - 1) < n.toNat) : k = lgN n := by
  obtain ⟨sa, sb, _⟩ := lgN_spec n h0 h1
  rcases Nat.lt_trichotomy k (lgN n) with h | h | h
  · rcases sb with sb | sb
    · omega
    · have := Nat.pow_le_pow_right (n := 2) (by omega) (show k ≤ lgN n - 1 by omega)
      omega
  · exact h
  · rcases hb with hb | hb
    · omega
    · have := Nat.pow_le_pow_right (n := 2) (by omega) (show lgN n ≤ k - 1 by omega)
      omega
theorem lg_pos (n : Int) (h : 1 ≤ n) : lg n = (lgN n : Int) := by
  unfold lg
  rw [if_neg (by omega)]

set_option maxRecDepth 20000 in
set_option maxHeartbeats 400000 in
theorem log2_any (n : Int) (w : World) (h1 : n ≤ 9223372036854775807) : Calls Tryz.prog 142 #[.int .i64 n] w fun e w' => e = .returned (.int .i64 (lg n)) ∧ w' = w := by
  by_cases h : n < 1
  · have hl : lg n = -1 := by simp [lg, h]
    rw [hl]
    clear hl
    go_enter Tryz.func142, Tryz.ntmps142
    go_wp2
    go_ret
    exact ⟨rfl, rfl⟩
  · have hl : lg n = Lib.bitLen (n.toNat - 1) := by simp [lg, lgN, h]
    rw [hl]
    clear hl
    go_enter Tryz.func142, Tryz.ntmps142
    go_wp2_with (go_at_call 214; refine (Tryz.bits_Len64 _ _ (by omega) (by omega)).mono ?_; rintro e w' ⟨rfl, rfl⟩)
    go_ret
    refine ⟨ret1 ?_, rfl⟩
    congr 2

set_option maxRecDepth 20000 in
set_option maxHeartbeats 400000 in
theorem slice_any (n : Int) (w : World) (h1 : n ≤ 9223372036854775807) : Calls Tryz.prog 288 #[.int .i64 n] w fun e w' => e = .returned (.int .i64 (lg n)) ∧ w' = w := by
  have C1 := log2_any n w h1
  clear h1
  go_enter Tryz.func288, Tryz.ntmps288
  go_wp2_with (go_at_call 142; refine C1.mono ?_; rintro e w' ⟨rfl, rfl⟩)
  go_ret
  exact ⟨rfl, rfl⟩

/-! ### Ceil2 -/
def cl (n : Int) : Int := 2 ^ lgN n
theorem cl_facts (n : Int) (h0 : 1 ≤ n) (h1 : n ≤ 1073741824) : wrap64 (2 ^ lgN n) = cl n ∧ n ≤ cl n ∧ cl n / 2 < n ∧ 1 ≤ cl n ∧ cl n ≤ 1073741824 ∧ lgN n ≤ 30 := by
  obtain ⟨a, b, c⟩ := lgN_spec n h0 (by omega)
  have h30 : lgN n ≤ 30 := by
    rcases b with b | b
    · omega
    · rcases Nat.lt_or_ge 30 (lgN n) with h | h
      · have := Nat.pow_le_pow_right (n := 2) (by omega) (show 30 ≤ lgN n - 1 by omega)
        omega
      · exact h
  have hf := pow_fit (lgN n) (by omega)
  have hcl : cl n = ((2 ^ lgN n : Nat) : Int) := (pow_int _).symm
  have h3 := Nat.pow_le_pow_right (n := 2) (by omega) h30
  have h5 : lgN n = 0 ∨ 2 ^ lgN n = 2 * 2 ^ (lgN n - 1) := by
    by_cases hz : lgN n = 0
    · exact .inl hz
    · right
      rw [← Nat.pow_succ']
      congr 1
      omega
  refine ⟨hf, ?_⟩
  rw [hcl]
  rcases h5 with h5 | h5
  · rw [h5] at a ⊢
    simp at a ⊢
    omega
  · rcases b with b | b
    · rw [b] at a ⊢
      simp at a ⊢
      omega
    · generalize 2 ^ (lgN n - 1) = Q at b h5
      generalize 2 ^ lgN n = P at *
      omega
/-- The least power of two that is at least n; 0 of 0. -/
def up2 (n : Int) : Int := if n = 0 then 0 else cl n

set_option maxRecDepth 20000 in
set_option maxHeartbeats 400000 in
theorem ceil_any (n : Int) (w : World) (h0 : 0 ≤ n) (h1 : n ≤ 65536) : Calls Tryz.prog 99 #[.int .i64 n] w fun e w' => e = .returned (.tuple #[.int .i64 (up2 n), .int .i64 0]) ∧ w' = w := by
  unfold up2
  by_cases hz : n = 0
  · subst hz
    rw [if_pos rfl]
    go_enter Tryz.func99, Tryz.ntmps99
    go_wp2
    go_ret2
    exact ⟨rfl, rfl⟩
  · rw [if_neg hz]
    obtain ⟨hc, _, _, _, _, h30⟩ := cl_facts n (by omega) (by omega)
    have HC : Hid (wrap64 (2 ^ lgN n) = cl n) := hc
    have C1 := log2_any n w (by omega)
    rw [lg_pos n (by omega)] at C1
    clear hc
    go_enter Tryz.func99, Tryz.ntmps99
    go_wp2_with (go_at_call 142; refine C1.mono ?_; rintro e w' ⟨rfl, rfl⟩)
    go_ret2
    exact ⟨ret2 HC.out rfl, rfl⟩

/-! ### the reference's Slice -/
/-! ### Count -/
def cnt (l : List Int) (i : Nat) : Int := (l.countP (fun x => decide (lg x = i)) : Nat)
def cntL (l : List Int) : List Int := (List.range 17).map (cnt l)
theorem cntL_len (l : List Int) : (cntL l).length = 17 := by simp [cntL]
theorem cntL_get (l : List Int) (i : Nat) (h : i < 17) : (cntL l).getD i 0 = cnt l i := by simp [cntL, List.getD, h]
theorem cnt_bound (l : List Int) (i : Nat) : 0 ≤ cnt l i ∧ cnt l i ≤ l.length := by
  have := List.countP_le_length (p := fun x => decide (lg x = i)) (l := l)
  unfold cnt
  omega
theorem take_snoc (l : List Int) (k : Nat) (h : k < l.length) : l.take (k + 1) = l.take k ++ [l.getD k 0] := by
  rw [List.take_add_one, List.getD, List.getElem?_eq_getElem h]; rfl
theorem cnt_succ (l : List Int) (k i : Nat) (h : k < l.length) : cnt (l.take (k + 1)) i = cnt (l.take k) i + (if lg (l.getD k 0) = i then 1 else 0) := by
  rw [take_snoc l k h]
  unfold cnt
  rw [List.countP_append, List.countP_singleton]
  by_cases hq : lg (l.getD k 0) = i
  · rw [if_pos hq, if_pos (by simpa using hq)]; rfl
  · rw [if_neg hq, if_neg (by simpa using hq)]; rfl
def Fit (l : List Int) : Prop := ∀ i, i < l.length → -9223372036854775808 ≤ l.getD i 0 ∧ l.getD i 0 ≤ 9223372036854775807
theorem Fit.take {l : List Int} (h : Fit l) (n : Nat) : Fit (l.take n) := by
  intro i hi
  simp only [List.length_take] at hi
  have := h i (by omega)
  simpa [List.getD, List.getElem?_take, show i < n by omega] using this

theorem info3 : (Tryz.prog.info? 3).map (fun i => (i.zero, i.size, i.bytes)) = some (some (.int .i64 0), 1, 8) := by kernel_rfl
theorem cell_of_row {w : World} {g : Nat} {cs : Array Value} {t : TypeId} (h : w.heap[g]? = some (.cells cs t)) (i : Nat) : w.cell? ⟨g, i, none⟩ = cs[i]? := by
  unfold World.cell?
  rw [h]
  simp
theorem made_cell (w : World) (n i : Nat) (h : i < n) : (w.alloc (.cells (madeCells (Value.int .i64 0).cells (n * 1)) 3)).cell? ⟨w.heap.size, i, none⟩ = some (.int .i64 0) := by
  rw [cell_of_row (MapKept.heap_alloc w _).1]
  simp [madeCells, Value.cells, h, Nat.mod_one]
theorem new_free (w : World) (cs : Array Value) (t : TypeId) (i : Nat) : (w.alloc (.cells cs t)).frozen? ⟨w.heap.size, i, none⟩ = false := by
  unfold World.frozen?
  rw [(MapKept.heap_alloc w _).1]
  simp
theorem make_int (m : Nat) (hm : m ≤ 1000000) (W : World) : (Instr.makeSlice 170 (.int .i64 m) (.int .i64 m)).run Tryz.prog W = .ok (.slice (some ⟨W.heap.size, 0, none⟩) m m) (W.alloc (.cells (madeCells (Value.int .i64 0).cells (m * 1)) 3)) := by
  obtain ⟨i0, hi, hz0, hz1, hz2⟩ := info_parts info3
  have h := run_make (P := Tryz.prog) W 170 3 i0 (.int .i64 0) Tryz.underlying170 hi hz0 .i64 .i64 m m (by omega) (Int.le_refl _) (by rw [hz2]; omega) (by omega)
  rw [hz1] at h
  simpa using h

/-- A list of the call's own, in the block G: 17 numbers that may be written. -/
def Own17 (G : Nat) (w : World) (f : Nat → Int) : Prop :=
  (∀ j, j < 17 → w.cell? ⟨G, j, none⟩ = some (.int .i64 (f j))) ∧ (∀ j, j < 17 → w.frozen? ⟨G, j, none⟩ = false) ∧ G < w.heap.size
theorem Own17.upd {G : Nat} {w : World} {f f' : Nat → Int} (h : Own17 G w f) (j : Nat) (hj : j < 17) (x : Int) (hx : f' j = x) (ho : ∀ i, i ≠ j → f' i = f i) : Own17 G (w.setCell ⟨G, j, none⟩ (.int .i64 x)) f' := by
  obtain ⟨h1, h2, h3⟩ := h
  refine ⟨fun i hi => ?_, fun i hi => ?_, by simpa using h3⟩
  · by_cases hij : i = j
    · subst hij
      rw [World.cell?_setCell_same _ _ _ (h1 i hi), hx]
    · rw [World.cell?_setCell_other _ _ _ _ (fun q => by injection q with _ q2; omega), h1 i hi, ho i hij]
  · rw [World.frozen?_setCell]; exact h2 i hi
theorem Own17.ints {G : Nat} {w : World} {l : List Int} (h : Own17 G w (fun j => l.getD j 0)) (hl : l.length = 17) : Ints w.heap.size w (.slice (some ⟨G, 0, none⟩) 17 17) l :=
  ⟨_, 17, by rw [hl], by omega, fun _ => ⟨G, 0, rfl, h.2.2, fun i hi => by rw [Nat.zero_add]; exact h.1 i (by omega)⟩⟩

set_option maxRecDepth 20000 in
set_option maxHeartbeats 1000000 in
theorem count_any (l : List Int) (v : Value) (w : World) (h : Ints w.heap.size w v l) (hf : Fit l) (hlen : l.length ≤ 1000000) :
    Calls Tryz.prog 224 #[v] w fun e w' => e = .returned (.slice (some ⟨w.heap.size, 0, none⟩) 17 17) ∧ Own17 w.heap.size w' (cnt l) ∧ Below w.heap.size w w' := by
  obtain ⟨a, cap, rfl, hcap, h⟩ := h
  have HC : Hid _ := h
  have HF : Hid _ := hf
  have HL : Hid (l ≠ [] ↔ 0 < l.length) := by
    show _ ↔ _
    cases l <;> simp
  have HS : Hid (∀ k i, k < l.length → cnt (l.take (k + 1)) i = cnt (l.take k) i + (if lg (l.getD k 0) = i then 1 else 0)) := fun k i hk => cnt_succ l k i hk
  have HB : Hid (∀ k i, k ≤ l.length → 0 ≤ cnt (l.take k) i ∧ cnt (l.take k) i ≤ 1000000) := fun k i hk => by
    have := cnt_bound (l.take k) i
    rw [List.length_take] at this
    omega
  have HE : Hid (l.take l.length = l) := List.take_length
  clear h hf hcap
  have hmk : (Instr.makeSlice 170 (.int .i64 17) (.int .i64 17)).run Tryz.prog w = _ := make_int 17 (by omega) w
  have M : Own17 w.heap.size (w.alloc (.cells (madeCells (Value.int .i64 0).cells (17 * 1)) 3)) (cnt (l.take 0)) :=
    ⟨fun j hj => by rw [made_cell w 17 j hj]; simp [cnt], fun j hj => new_free w _ _ j, by simp⟩
  have m3 : Below w.heap.size w (w.alloc (.cells (madeCells (Value.int .i64 0).cells (17 * 1)) 3)) := (Below.refl _ _).alloc (Nat.le_refl _) _
  obtain ⟨W1, hW1⟩ : ∃ W1, W1 = (w.alloc (.cells (madeCells (Value.int .i64 0).cells (17 * 1)) 3)) := ⟨_, rfl⟩
  rw [← hW1] at hmk M m3
  clear hW1
  have HM : Hid _ := M
  clear M
  obtain ⟨L, hL⟩ : ∃ L, l.length = L := ⟨_, rfl⟩
  rw [hL] at HC HL HS HB HE hlen ⊢
  obtain ⟨G, hG⟩ : ∃ G, w.heap.size = G := ⟨_, rfl⟩
  rw [hG] at hmk HM m3 HC ⊢
  have C1 : ∀ k, k < L → ∀ W, Calls Tryz.prog 288 #[.int .i64 (l.getD k 0)] W fun e w' => e = .returned (.int .i64 (lg (l.getD k 0))) ∧ w' = W := fun k hk W => slice_any _ W (HF.out k (by omega)).2
  clear HF hL
  go_enter Tryz.func224, Tryz.ntmps224
  go_wp2_with fail
  go_loopw [10] (fun i wr => ∃ k : Nat, i = .int .i64 k ∧ k ≤ L ∧ Hid (Own17 G wr (cnt (l.take k))) ∧ Below G w wr) (fun i _ => L - (intOf i).toNat)
  case atStart => exact ⟨0, rfl, by omega, HM, m3⟩
  case round =>
    obtain ⟨k, rfl, hk, HO, hb⟩ := hrel
    by_cases hlt : k < L
    · have hlt' : (k : Int) < (L : Int) := by omega
      obtain ⟨g, off, rfl, hg, hc⟩ := HC.out (HL.out.2 (by omega))
      have c1 : wr.cell? ⟨g, off + k, none⟩ = some (.int .i64 (l.getD k 0)) := by rw [hb.cell (by exact hg)]; exact hc k hlt
      have C2 := C1 k hlt
      have HS2 : Hid (∀ i, cnt (l.take (k + 1)) i = cnt (l.take k) i + (if lg (l.getD k 0) = i then 1 else 0)) := fun i => HS.out k i hlt
      have HB2 : Hid (∀ i, 0 ≤ cnt (l.take k) i ∧ cnt (l.take k) i ≤ 1000000) := fun i => HB.out k i hk
      clear hc C1 HB HS HC
      generalize l.getD k 0 = x at *
      generalize lg x = s at *
      by_cases hs : 0 ≤ s ∧ s < 17
      · obtain ⟨j, rfl⟩ : ∃ j : Nat, s = j := ⟨s.toNat, by omega⟩
        have hj : j < 17 := by omega
        have hj' : (j : Int) < 17 := by omega
        have c2 := HO.out.1 j hj
        have f2 := HO.out.2.1 j hj
        have hcb := HB2.out j
        have HO2 : Hid (∀ c, c = cnt (l.take k) j → Own17 G (wr.setCell ⟨G, j, none⟩ (.int .i64 (c + 1))) (cnt (l.take (k + 1)))) := by
          intro c hc
          refine HO.out.upd j hj _ ?_ fun i hi => ?_
          · rw [HS2.out j, if_pos rfl, hc]
          · rw [HS2.out i, if_neg (by omega)]; omega
        obtain ⟨c, hc⟩ : ∃ c, c = cnt (l.take k) j := ⟨_, rfl⟩
        have HO3 : Hid _ := HO2.out c hc
        rw [← hc] at c2 hcb
        clear hc HO2 HB2 HS2 HO hs
        go_wp2_with (go_at_call 288; refine (C2 _).mono ?_; rintro e w2 ⟨rfl, rfl⟩)
        go_roundw
        case rel => exact ⟨k + 1, by go_num, by omega, HO3, hb.setCell (by simp) _⟩
        case measure => simp [intOf]; omega
      · have HO3 : Hid (Own17 G wr (cnt (l.take (k + 1)))) := by
          have e : ∀ i, i < 17 → cnt (l.take (k + 1)) i = cnt (l.take k) i := fun i hi => by rw [HS2.out i, if_neg (by omega)]; omega
          exact ⟨fun j hj => by rw [e j hj]; exact HO.out.1 j hj, HO.out.2⟩
        clear HO HB2 HS2
        by_cases hs0 : 0 ≤ s
        · have hs1 : ¬ s < 17 := by omega
          clear hs
          go_wp2_with (go_at_call 288; refine (C2 _).mono ?_; rintro e w2 ⟨rfl, rfl⟩)
          go_roundw
          case rel => exact ⟨k + 1, by go_num, by omega, HO3, hb⟩
          case measure => simp [intOf]; omega
        · clear hs
          go_wp2_with (go_at_call 288; refine (C2 _).mono ?_; rintro e w2 ⟨rfl, rfl⟩)
          go_roundw
          case rel => exact ⟨k + 1, by go_num, by omega, HO3, hb⟩
          case measure => simp [intOf]; omega
    · obtain rfl : k = L := by omega
      rw [HE.out] at HO
      go_wp2
      go_ret
      exact ⟨rfl, HO.out, hb⟩

end Go.Proofs.YtpmmploedkbeoaaGreatDoor.C

/- Does a number stand twice: the walk of twice, by the library's Clone and Sort. -/
namespace Go.Proofs.YtpmmploedkbeoaaGreatDoor.C
open Go.RowKit Go.Sort

def srt (l : List Int) : List Int := l.mergeSort fun x y => decide (x ≤ y)
theorem srt_len (l : List Int) : (srt l).length = l.length := by unfold srt; exact List.length_mergeSort l
theorem srt_perm (l : List Int) : (srt l).Perm l := List.mergeSort_perm l _
theorem srt_sorted (l : List Int) : (srt l).Pairwise (fun x y => x ≤ y) := by
  have := List.pairwise_mergeSort (le := fun x y : Int => decide (x ≤ y)) (fun a b c h1 h2 => by simp only [decide_eq_true_eq] at *; omega) (fun a b => by simp only [Bool.or_eq_true, decide_eq_true_eq]; omega) l
  exact this.imp fun {a b} h => by simpa using h
theorem getD_eq (l : List Int) (k : Nat) (h : k < l.length) : l.getD k 0 = l[k] := by rw [List.getD, List.getElem?_eq_getElem h]; rfl

theorem adj_dup (l : List Int) (k : Nat) (h1 : 1 ≤ k) (h2 : k < l.length) (h : (srt l).getD k 0 = (srt l).getD (k - 1) 0) : ¬ l.Nodup := by
  intro q
  rw [← (srt_perm l).nodup_iff] at q
  have hk : k < (srt l).length := by rw [srt_len]; exact h2
  rw [getD_eq _ _ hk, getD_eq _ _ (by omega)] at h
  have := (List.pairwise_iff_getElem.1 q) (k - 1) k (by omega) hk (by omega)
  exact this h.symm
theorem adj_nodup (l : List Int) (h : ∀ j, 1 ≤ j → j < l.length → ¬ (srt l).getD j 0 = (srt l).getD (j - 1) 0) : l.Nodup := by
  rw [← (srt_perm l).nodup_iff]
  have hs := List.pairwise_iff_getElem.1 (srt_sorted l)
  refine List.pairwise_iff_getElem.2 fun i j hi hj hij => ?_
  have hj2 : j < l.length := by rw [← srt_len]; exact hj
  have h1 := h j (by omega) hj2
  rw [getD_eq _ _ hj, getD_eq _ _ (by omega)] at h1
  have h2 : (srt l)[j - 1]'(by omega) ≤ (srt l)[j] := hs (j - 1) j (by omega) hj (by omega)
  have h3 : (srt l)[i] ≤ (srt l)[j - 1]'(by omega) := by
    by_cases hij1 : i = j - 1
    · subst hij1; exact Int.le_refl _
    · exact hs i (j - 1) hi (by omega) (by omega)
  intro e
  omega

/-- Sort of a list of the call's own. -/
theorem sort_own (l : List Int) (v : Value) (w : World) (B : Nat) (h : w.ownsRow B 3 1 v l.length (l.map (Value.int .i64))) (hlen : l.length ≤ 1000000) :
    Calls Tryz.prog 286 #[v] w fun e w' => e = .returned (.tuple #[]) ∧ w'.ownsRow B 3 1 v l.length ((srt l).map (Value.int .i64)) ∧ ∀ (N : Nat) (w0 : World), N ≤ B → Below N w0 w → Below N w0 w' := by
  by_cases hl : l = []
  · subst hl
    obtain ⟨a, c, rfl⟩ : ∃ a c, v = .slice a 0 c := by
      rcases h.2 with ⟨rfl, _⟩ | ⟨g, cap, cur, rfl, _⟩
      · exact ⟨_, _, rfl⟩
      · exact ⟨_, _, rfl⟩
    refine (Tryz.slices_Sort_int_none a c w).mono fun e w' ⟨he, hw⟩ => ?_
    subst hw
    exact ⟨he, by simpa [srt] using h, fun N w0 _ hb => hb⟩
  · rcases h.2 with ⟨_, h0⟩ | ⟨g, cap, cur, rfl, hbase, hb, h1, h2, h3, h4⟩
    · exact absurd (List.eq_nil_of_length_eq_zero h0) hl
    · have hg : g < w.heap.size := (Array.getElem?_eq_some_iff.1 hb).1
      refine (Tryz.slices_Sort_int g 0 cap l w (holds_of_blockI hb (by simpa using h4)) hg (by omega)).mono fun e w' ⟨he, n, os, hw⟩ => ?_
      subst hw
      refine ⟨he, ownsRow_sortedI (srt_len l) hbase hb h1 h2 h3, fun N w0 hN hbel => ?_⟩
      exact hbel.grown (grownBy_sortedI _) (by omega) (fun j hj => by cases hj; omega)

/-- Clone of a list. -/
theorem clone_any (l : List Int) (v : Value) (w : World) (h : Ints w.heap.size w v l) (hlen : l.length ≤ 1000000) :
    Calls Tryz.prog 285 #[v] w fun e w' => ∃ v', e = .returned v' ∧ w'.ownsRow w.heap.size 3 1 v' l.length (l.map (Value.int .i64)) ∧ Below w.heap.size w w' := by
  obtain ⟨a, cap, rfl, hcap, h⟩ := h
  by_cases hl : l = []
  · subst hl
    cases a with
    | none =>
      refine (Tryz.slices_Clone_int_nil _ _ w).mono fun e w' ⟨he, hw⟩ => ?_
      subst hw
      exact ⟨_, he, World.ownsRow_nil _ _ _ _, Below.refl _ _⟩
    | some a =>
      refine (Tryz.slices_Clone_int_zero a cap w).mono fun e w' ⟨v', he, ho, _, hb⟩ => ?_
      exact ⟨v', he, ho, hb⟩
  · obtain ⟨b, off, rfl, hb, hc⟩ := h hl
    refine (Tryz.slices_Clone_int b off l.length cap l w (Nat.le_refl _) (by omega) hc).mono fun e w' ⟨v', he, ho, _, hb⟩ => ?_
    rw [List.take_length] at ho
    exact ⟨v', he, ho, hb⟩

theorem ints_own {B : Nat} {w : World} {v : Value} {l : List Int} (h : w.ownsRow B 3 1 v l.length (l.map (Value.int .i64))) : Ints w.heap.size w v l := by
  have hcs := fun g => h.cells (g := g)
  rcases h.2 with ⟨rfl, hz⟩ | ⟨g, cap, cur, rfl, h2, h3, h4, h5, h6, h7⟩
  · exact ⟨none, 0, by rw [hz], by omega, fun hl => absurd (List.eq_nil_of_length_eq_zero hz) hl⟩
  · refine ⟨_, cap, rfl, h4, fun _ => ⟨g, 0, rfl, (Array.getElem?_eq_some_iff.1 h3).1, fun i hi => ?_⟩⟩
    have := hcs g rfl i (Value.int .i64 (l.getD i 0)) (by simp [List.getD, List.getElem?_eq_getElem hi])
    by_cases hp0 : i = 0
    · subst hp0; simpa [Addr.add] using this
    · simpa [Addr.add, hp0] using this

set_option maxRecDepth 20000 in
set_option maxHeartbeats 1000000 in
theorem twice_any (l : List Int) (v : Value) (w : World) (h : Ints w.heap.size w v l) (hlen : l.length ≤ 1000000) :
    Calls Tryz.prog 222 #[v] w fun e w' => e = .returned (.bool (decide (¬ l.Nodup))) ∧ Below w.heap.size w w' := by
  have C1 := clone_any l v w h hlen
  have C2 := fun v' w' h => sort_own l v' w' w.heap.size h hlen
  obtain ⟨a, cap, rfl, hcap, h⟩ := h
  have HA : Hid (∀ k, 1 ≤ k → k < l.length → (srt l).getD k 0 = (srt l).getD (k - 1) 0 → decide (¬ l.Nodup) = true) := fun k h1 h2 h3 => by
    have := adj_dup l k h1 h2 h3
    simpa using this
  have HN : Hid ((∀ j, 1 ≤ j → j < l.length → ¬ (srt l).getD j 0 = (srt l).getD (j - 1) 0) → decide (¬ l.Nodup) = false) := fun q => by
    have := adj_nodup l q
    simpa using this
  have HI : Hid (∀ (W : World) (v' : Value), W.ownsRow w.heap.size 3 1 v' l.length ((srt l).map (Value.int .i64)) → Ints W.heap.size W v' (srt l)) := fun W v' q => ints_own (B := w.heap.size) (by rw [srt_len]; exact q)
  have HLs : Hid ((srt l).length = l.length) := srt_len l
  clear h hcap
  obtain ⟨L, hL⟩ : ∃ L, l.length = L := ⟨_, rfl⟩
  rw [hL] at C1 C2 HA HN HI HLs hlen ⊢
  clear hL
  go_enter Tryz.func222, Tryz.ntmps222
  go_wp2_with fail
  refine C1.mono ?_
  rintro e w1 ⟨v1, rfl, ho1, hb1⟩
  have C3 := C2 v1 w1 ho1
  clear C1 C2 ho1
  go_wp2_with fail
  refine C3.mono ?_
  rintro e w2 ⟨rfl, ho2, hbb⟩
  have hb2 := hbb _ _ (Nat.le_refl _) hb1
  obtain ⟨a1, cap1, rfl, hcap1, hc⟩ := HI.out _ _ ho2
  have HC : Hid _ := hc
  have HL : Hid (srt l ≠ [] ↔ 0 < L) := by
    show _ ↔ _
    rw [← HLs.out]
    cases srt l <;> simp
  rw [HLs.out] at HC ⊢
  clear C3 ho2 hbb hb1 hc hcap1 HI HLs
  go_wp2_with fail
  go_loopw [4] (fun i wr => ∃ k : Nat, i = .int .i64 k ∧ 1 ≤ k ∧ k ≤ L + 1 ∧ Hid (∀ j, 1 ≤ j → j < k → ¬ (srt l).getD j 0 = (srt l).getD (j - 1) 0) ∧ Below w2.heap.size w2 wr) (fun i _ => L - (intOf i).toNat)
  case atStart => exact ⟨1, rfl, by omega, by omega, fun j h1 h2 => absurd h2 (by omega), Below.refl _ _⟩
  case round =>
    obtain ⟨k, rfl, hk1, hk, HT, hb⟩ := hrel
    by_cases hlt : k < L
    · have hlt' : (k : Int) < (L : Int) := by omega
      obtain ⟨g, off, rfl, hg, hc⟩ := HC.out (HL.out.2 (by omega))
      have c1 : wr.cell? ⟨g, off + k, none⟩ = some (.int .i64 ((srt l).getD k 0)) := by rw [hb.cell (by exact hg)]; exact hc k hlt
      have c2 : wr.cell? ⟨g, off + (k - 1), none⟩ = some (.int .i64 ((srt l).getD (k - 1) 0)) := by rw [hb.cell (by exact hg)]; exact hc (k - 1) (by omega)
      obtain ⟨m, rfl⟩ : ∃ m, k = m + 1 := ⟨k - 1, by omega⟩
      rw [Nat.add_sub_cancel] at c2
      have HA2 : Hid ((srt l).getD (m + 1) 0 = (srt l).getD m 0 → decide (¬ l.Nodup) = true) := HA.out (m + 1) hk1 hlt
      have HT2 : Hid (¬ (srt l).getD (m + 1) 0 = (srt l).getD m 0 → ∀ j, 1 ≤ j → j < m + 1 + 1 → ¬ (srt l).getD j 0 = (srt l).getD (j - 1) 0) := by
        intro q j h1 h2
        by_cases hj : j = m + 1
        · subst hj; exact q
        · exact HT.out j h1 (by omega)
      clear hc HC HA HN HT
      have hm : IntKind.i64.wrap (((m + 1 : Nat) : Int) - 1) = (m : Int) := by rw [IntKind.wrap_i64]; omega
      generalize (srt l).getD (m + 1) 0 = x at *
      generalize (srt l).getD m 0 = y at *
      by_cases hxy : x = y
      · have HD : Hid (decide (¬ l.Nodup) = true) := HA2.out hxy
        subst hxy
        clear HA2 HT2
        go_wp2
        go_region
        go_wp2
        go_ret
        exact ⟨retB HD.out, bthen hb2 hb2.size hb.drew⟩
      · have HT3 := HT2.out hxy
        have HT4 : Hid _ := HT3
        have hxy' : (x == y) = false := by simpa using hxy
        clear HA2 HT2 HT3
        go_wp2
        go_region
        go_wp2
        go_roundw
        case rel => exact ⟨m + 1 + 1, by go_num, by omega, by omega, HT4, hb.drew⟩
        case measure => simp [intOf]; omega
    · have HD : Hid (decide (¬ l.Nodup) = false) := HN.out fun j h1 h2 => HT.out j h1 (by omega)
      go_wp2
      go_ret
      exact ⟨retB HD.out, bthen hb2 hb2.size hb⟩

end Go.Proofs.YtpmmploedkbeoaaGreatDoor.C
