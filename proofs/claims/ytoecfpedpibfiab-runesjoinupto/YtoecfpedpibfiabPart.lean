/- The walk of Part. -/
import Derived.Test.YtoecfpedpibfiabList
import Derived.StillTailTactics
import Derived.Lib.AppendStr
import Derived.Laws.IdiomStrings
import Derived.Laws.BytesArg
namespace Go.Proofs.Ytoecfpedpibfiab
open Go.RowKit

theorem enters38 : ∀ args w, (callFunc 15 args).run Try.prog w = .ok (.enter 15 args) w := enters_of Try.func15 (by kernel_rfl) rfl
theorem Try.info5 : (Try.prog.info? 5).map (fun i => (i.zero, i.size, i.bytes)) = some (some (.int .u8 0), 1, 1) := by kernel_rfl

/-- A region that draws its order: first what only reads, then the rest in its order; the world with one more draw. -/
theorem wp_tail {P : Program} {id : Nat} {Q : Exit → Act → World → Prop} {a : Act} {w : World} {l : List Oper} (n : Nat) (hm : P.follows .mixedOrders = true) (hB : Region.lexTailB .any l.toArray n = true)
    (h : wpStill P l.toArray w.drew (fun a' => wpList P l.toArray Q (l.drop n) a' w.drew) (l.take n) a) : (Code.region id l.toArray true).wp P Q a w :=
  wp_region_still_tail n hm hB h

set_option maxHeartbeats 400000 in
theorem part_skip (a n c p t : Nat) (W : World) (x y z i k j : Int) (ha : a < W.heap.size) (hn : n < W.heap.size) (hj : c < W.heap.size) (ca : W.cell? ⟨a, 0, none⟩ = some (.int .i64 i)) (cn : W.cell? ⟨n, 0, none⟩ = some (.int .i64 k)) (fn : W.frozen? ⟨n, 0, none⟩ = false) (cc : W.cell? ⟨c, 0, none⟩ = some (.int .i64 j))
    (hcn : c ≠ n) (h : ¬ (i ≤ k ∧ k < j)) (h0 : 0 ≤ k) (h1 : k < 9223372036854775807) :
    Calls Try.prog 15 #[.agg #[.int .i64 x, .int .i64 y, .int .i64 z], .pointer (some ⟨a, 0, none⟩), .pointer (some ⟨n, 0, none⟩), .pointer (some ⟨c, 0, none⟩), .pointer (some ⟨p, 0, none⟩), .pointer (some ⟨t, 0, none⟩)] W fun e W' => e = .returned (.bool (decide (k + 1 < j))) ∧ ∃ o, W' = (W.setCell ⟨n, 0, none⟩ (.int .i64 (k + 1))).alloc o := by
  have ca1 := alloc_cell ha ca
  have cn1 := alloc_cell hn cn
  have fn1 := alloc_frozen hn fn
  have cc1 := alloc_cell hj cc
  by_cases h2 : i ≤ k
  · have h3 : ¬ k < j := fun h4 => h ⟨h2, h4⟩
    have h4 : ¬ (k + 1 < j) := by omega
    rw [decide_eq_false h4]
    clear h
    go_enter Try.func15, Try.ntmps15
    go_wp2
    go_ret
    exact ⟨rfl, _, rfl⟩
  · clear h
    by_cases h3 : k + 1 < j
    · rw [decide_eq_true h3]
      go_enter Try.func15, Try.ntmps15
      go_wp2
      go_ret
      exact ⟨rfl, _, rfl⟩
    · rw [decide_eq_false h3]
      go_enter Try.func15, Try.ntmps15
      go_wp2
      go_ret
      exact ⟨rfl, _, rfl⟩

set_option maxHeartbeats 1000000 in
theorem part_take (a n c p t B : Nat) (W : World) (x y : Nat) (z i k j : Int) (s : ByteArray) (v : Value) (m : Nat) (xs : List Value) (hB : B ≤ W.heap.size) (ha : a < B) (hn : n < B) (hj : c < B) (hp : p < B) (ht : t < B)
    (ca : W.cell? ⟨a, 0, none⟩ = some (.int .i64 i)) (cn : W.cell? ⟨n, 0, none⟩ = some (.int .i64 k)) (fn : W.frozen? ⟨n, 0, none⟩ = false) (cc : W.cell? ⟨c, 0, none⟩ = some (.int .i64 j))
    (cp : W.cell? ⟨p, 0, none⟩ = some v) (fp : W.frozen? ⟨p, 0, none⟩ = false) (ct : W.cell? ⟨t, 0, none⟩ = some (.string s)) (hown : W.ownsRow B 5 1 v m xs)
    (hcn : c ≠ n) (hcp : c ≠ p) (hnp : n ≠ p) (h : i ≤ k) (h' : k < j) (h0 : 0 ≤ k) (h1 : k < 9223372036854775807) (hxy : x + y ≤ s.size) (hs : s.size ≤ 1048576) (hm : m + y ≤ 1048576) :
    Calls Try.prog 15 #[.agg #[.int .i64 x, .int .i64 y, .int .i64 z], .pointer (some ⟨a, 0, none⟩), .pointer (some ⟨n, 0, none⟩), .pointer (some ⟨c, 0, none⟩), .pointer (some ⟨p, 0, none⟩), .pointer (some ⟨t, 0, none⟩)] W fun e W' => e = .returned (.bool (decide (k + 1 < j))) ∧
      ∃ v' W1, W' = (W1.setCell ⟨p, 0, none⟩ v').setCell ⟨n, 0, none⟩ (.int .i64 (k + 1)) ∧ W1.ownsRow B 5 1 v' (m + y) (xs ++ Lib.strCells (s.extract x (x + y))) ∧ Below B W W1 := by
  have ca1 := alloc_cell (Nat.lt_of_lt_of_le ha hB) ca
  have cn1 := alloc_cell (Nat.lt_of_lt_of_le hn hB) cn
  have fn1 := alloc_frozen (Nat.lt_of_lt_of_le hn hB) fn
  have cc1 := alloc_cell (Nat.lt_of_lt_of_le hj hB) cc
  have cp1 := alloc_cell (Nat.lt_of_lt_of_le hp hB) cp
  have fp1 := alloc_frozen (Nat.lt_of_lt_of_le hp hB) fp
  have ct1 := alloc_cell (Nat.lt_of_lt_of_le ht hB) ct
  obtain ⟨a0, c0, rfl⟩ := slice_shape hown
  obtain ⟨i0, hi, hz0, hz1, hz2⟩ := info_parts Try.info5
  obtain ⟨q, hq⟩ : ∃ q, x + y = q := ⟨_, rfl⟩
  have hwr : IntKind.i64.wrap ((x : Int) + (y : Int)) = (q : Int) := by rw [IntKind.wrap_i64]; omega
  have hxq : (x : Int) ≤ (q : Int) := by omega
  have hqs : (q : Int) ≤ (s.size : Int) := by omega
  go_enter Try.func15, Try.ntmps15
  go_wp2
  refine wp_tail 10 (by kernel_rfl) (by kernel_rfl) ?_
  simp only [List.take_succ_cons, List.take_zero, List.drop_succ_cons, List.drop_zero]
  repeat still_step
  refine wpStill_nil ?_
  have hsz : (s.extract x q).size = y := by simp [ByteArray.size_extract]; omega
  have hown1 : (W.alloc (.cells #[.int .i64 x, .int .i64 y, .int .i64 z] 28)).drew.ownsRow B 5 1 (.slice a0 m c0) m xs := hown.alloc _
  refine Lib.wpList_append_own_string _ rfl _ _ 38 9 rfl B 5 i0 Try.underlying38 Try.underlying9 hi hz0 hz1 hz2 _ m xs rfl hown1 (s.extract x q) rfl ?c1 ?c2 ?c3 ?_
  case c1 => unfold maxLen; omega
  case c2 => omega
  case c3 => show B ≤ (W.alloc _).heap.size; simp; omega
  intro v' w1 hown' hgrow _
  rw [hsz] at hown'
  have hbw : Below B W w1 := by
    have h1 : Below B W (W.alloc (.cells #[.int .i64 x, .int .i64 y, .int .i64 z] 28)) := (Below.refl _ W).alloc hB _
    have h2 : Below B W (W.alloc (.cells #[.int .i64 x, .int .i64 y, .int .i64 z] 28)).drew := ⟨h1.1, h1.2, h1.3, h1.4, h1.5⟩
    exact h2.grown hgrow (by show B ≤ (W.alloc _).heap.size; simp; omega) (fun k hk => (hown.lt k hk).1)
  have cn3 : w1.cell? ⟨n, 0, none⟩ = some (.int .i64 k) := (hbw.cell hn).trans cn
  have fn3 : w1.frozen? ⟨n, 0, none⟩ = false := (hbw.frozen hn).trans fn
  have cc3 : w1.cell? ⟨c, 0, none⟩ = some (.int .i64 j) := (hbw.cell hj).trans cc
  have cp3 : w1.cell? ⟨p, 0, none⟩ = some (.slice a0 m c0) := (hbw.cell hp).trans cp
  have fp3 : w1.frozen? ⟨p, 0, none⟩ = false := (hbw.frozen hp).trans fp
  obtain ⟨a1, c1, rfl⟩ := slice_shape hown'
  have HO : Hid _ := hown'
  have HB : Hid _ := hbw
  clear hown' hbw hown1 hown hgrow ca1 cn1 fn1 cc1 cp1 fp1 ct1 hwr
  by_cases h3 : k + 1 < j
  · go_wp2
    go_ret
    exact ⟨by simp [h3], _, w1, rfl, by first | exact HO.out | (rw [hq]; exact HO.out), HB.out⟩
  · go_wp2
    go_ret
    exact ⟨by simp [h3], _, w1, rfl, by first | exact HO.out | (rw [hq]; exact HO.out), HB.out⟩

end Go.Proofs.Ytoecfpedpibfiab
