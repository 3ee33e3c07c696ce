/- The walk of Decode: the first rune of a text from a byte on. -/
import Derived.Test.YtbgbhogcjaodkaaCg00
import Derived.Test.YtbgbhogcjaodkaaCg01
import Derived.RangeFuncNested
import Derived.RangeFuncBound
import Derived.RangeFuncCalls
import Derived.RangeFuncLeaves
import Derived.RangeFuncFrom
import Derived.Shelf.Abstract
import Derived.Shelf.RegionOpen
import Derived.WalkKit
import Derived.OwnWalkIn
import Derived.TacticsInMore
import Derived.LoopNIn
import Derived.LoopIn
namespace Go.Proofs.Ytbgbhogcjaodkaa
open Go.RowKit

theorem get_extract (s : ByteArray) (a i : Nat) : (s.extract a s.size).get! i = s.get! (a + i) := by
  rw [get_data, get_data, Lib.extract_to_end]
  simp [List.getD, List.getElem?_drop]
theorem decode_extract (s : ByteArray) (a p : Nat) : Utf8.decode (s.extract a s.size) p = Utf8.decode s (a + p) := by
  rw [Lib.decode_at, Lib.decode_at, get_extract, get_extract, get_extract, get_extract]
  have h : (s.extract a s.size).size - p = s.size - (a + p) := by rw [ByteArray.size_extract]; omega
  rw [h]
  simp only [Nat.add_assoc]
theorem wd_extract (s : ByteArray) (a p : Nat) : wd (s.extract a s.size) p = wd s (a + p) := by unfold wd; rw [decode_extract]
theorem rn_extract (s : ByteArray) (a p : Nat) : rn (s.extract a s.size) p = rn s (a + p) := by unfold rn; rw [decode_extract]

theorem enters36 : ∀ args w, (callFunc 45 args).run Try.prog w = .ok (.enter 45 args) w := enters_of Try.func45 (by kernel_rfl) rfl

set_option maxHeartbeats 400000 in
theorem dec_step (b f : Nat) (W : World) (n x y z : Int) (u0 u1 u2 : Value) (hb : b < W.heap.size) (hf : f < W.heap.size) (hc : W.cell? ⟨b, 0, none⟩ = some (.int .i64 n))
    (h0 : W.cell? ⟨f, 0, none⟩ = some u0) (h1 : W.cell? ⟨f, 1, none⟩ = some u1) (h2 : W.cell? ⟨f, 2, none⟩ = some u2)
    (f0 : W.frozen? ⟨f, 0, none⟩ = false) (f1 : W.frozen? ⟨f, 1, none⟩ = false) (f2 : W.frozen? ⟨f, 2, none⟩ = false) :
    Calls Try.prog 45 #[.agg #[.int .i64 x, .int .i64 y, .int .i64 z], .pointer (some ⟨b, 0, none⟩), .pointer (some ⟨f, 0, none⟩)] W fun e W' => e = .returned (.bool false) ∧
      ∃ o, W' = (((W.setCell ⟨f, 0, none⟩ (.int .i64 n)).setCell ⟨f, 1, none⟩ (.int .i64 y)).setCell ⟨f, 2, none⟩ (.int .i64 z)).alloc o := by
  have hc1 := alloc_cell hb hc
  have k0 := alloc_cell hf h0
  have k1 := alloc_cell hf h1
  have k2 := alloc_cell hf h2
  have g0 := alloc_frozen hf f0
  have g1 := alloc_frozen hf f1
  have g2 := alloc_frozen hf f2
  go_enter Try.func45, Try.ntmps45
  go_wp2
  go_ret
  exact ⟨rfl, _, rfl⟩

/-- Cells that lie ready, and a new iterator behind them. -/
theorem Own.start {B : Nat} {w W : World} {cs : List (Nat × Nat × Value)} (hc : ∀ c ∈ cs, W.cell? ⟨c.1, c.2.1, none⟩ = some c.2.2 ∧ W.frozen? ⟨c.1, c.2.1, none⟩ = false ∧ B ≤ c.1 ∧ c.1 < W.heap.size)
    (hb : Below B w W) (hB : B ≤ W.heap.size) (s : ByteArray) : Own B W.heap.size w (W.alloc (.stringIter s 0)) cs where
  cell c h := alloc_cell (hc c h).2.2.2 (hc c h).1 _
  free c h := alloc_frozen (hc c h).2.2.2 (hc c h).2.1 _
  low c h := by have := hc c h; simp; omega
  below := hb.alloc hB _
  iter := by simp; omega

/-- What Decode's going through leaves in its variable. -/
def fst3 (n : Int) : List Rn → Int × Int × Int
  | [] => (0, 0, 0)
  | r :: _ => (n, r.2.1, r.2.2)
def decCells (B : Nat) (n : Int) (done : List Rn) : List (Nat × Nat × Value) :=
  [(B, 0, .int .i64 n), (B + 1, 0, .int .i64 0), (B + 1, 1, .int .i64 0), (B + 1, 2, .int .i64 0), (B + 2, 0, .int .i64 (fst3 n done).1), (B + 2, 1, .int .i64 (fst3 n done).2.1), (B + 2, 2, .int .i64 (fst3 n done).2.2)]

/-- The world in which Decode goes through the text. -/
def decW (w : World) (n : Int) : World := ((w.alloc (.cells #[.int .i64 n] 3)).alloc (.cells #[.int .i64 0, .int .i64 0, .int .i64 0] 42)).alloc (.cells #[.int .i64 0, .int .i64 0, .int .i64 0] 42)
theorem decW_size (w : World) (n : Int) : (decW w n).heap.size = w.heap.size + 3 := by simp [decW]

theorem decW_own (w : World) (n : Int) (s : ByteArray) : Own w.heap.size (w.heap.size + 3) w ((decW w n).alloc (.stringIter s 0)) (decCells w.heap.size n []) := by
  have key : ∀ c ∈ decCells w.heap.size n [], (decW w n).cell? ⟨c.1, c.2.1, none⟩ = some c.2.2 ∧ (decW w n).frozen? ⟨c.1, c.2.1, none⟩ = false ∧ w.heap.size ≤ c.1 ∧ c.1 < (decW w n).heap.size := by
    intro c hc
    rw [decW_size]
    have n0 := new_cell w [.int .i64 n] 3 0 _ rfl
    have e1 : (w.alloc (.cells #[.int .i64 n] 3)).heap.size = w.heap.size + 1 := by simp
    have n1 := fun j v h => new_cell (w.alloc (.cells #[.int .i64 n] 3)) [.int .i64 0, .int .i64 0, .int .i64 0] 42 j v h
    rw [e1] at n1
    have e2 : ((w.alloc (.cells #[.int .i64 n] 3)).alloc (.cells #[.int .i64 0, .int .i64 0, .int .i64 0] 42)).heap.size = w.heap.size + 2 := by simp
    have n2 := fun j v h => new_cell ((w.alloc (.cells #[.int .i64 n] 3)).alloc (.cells #[.int .i64 0, .int .i64 0, .int .i64 0] 42)) [.int .i64 0, .int .i64 0, .int .i64 0] 42 j v h
    rw [e2] at n2
    simp only [decCells, fst3, List.mem_cons, List.not_mem_nil, or_false] at hc
    rcases hc with rfl | rfl | rfl | rfl | rfl | rfl | rfl
    · exact ⟨alloc_cell (by simp <;> omega) (alloc_cell (by simp <;> omega) n0.1 _) _, alloc_frozen (by simp <;> omega) (alloc_frozen (by simp <;> omega) n0.2 _) _, by simp <;> omega⟩
    · exact ⟨alloc_cell (by simp <;> omega) (n1 0 _ rfl).1 _, alloc_frozen (by simp <;> omega) (n1 0 _ rfl).2 _, by simp <;> omega⟩
    · exact ⟨alloc_cell (by simp <;> omega) (n1 1 _ rfl).1 _, alloc_frozen (by simp <;> omega) (n1 1 _ rfl).2 _, by simp <;> omega⟩
    · exact ⟨alloc_cell (by simp <;> omega) (n1 2 _ rfl).1 _, alloc_frozen (by simp <;> omega) (n1 2 _ rfl).2 _, by simp <;> omega⟩
    · exact ⟨(n2 0 _ rfl).1, (n2 0 _ rfl).2, by simp <;> omega⟩
    · exact ⟨(n2 1 _ rfl).1, (n2 1 _ rfl).2, by simp <;> omega⟩
    · exact ⟨(n2 2 _ rfl).1, (n2 2 _ rfl).2, by simp <;> omega⟩
  have h := Own.start key ((((Below.refl _ w).alloc (Nat.le_refl _) _).alloc (by simp <;> omega) _).alloc (by simp <;> omega) _) (by rw [decW_size]; omega) s
  rw [decW_size] at h
  exact h

set_option maxHeartbeats 1000000 in
theorem decode_each (x : ByteArray) (n : Int) (w : World) (hx : 0 < x.size) (hxs : x.size ≤ 9223372036854775807) :
    Calls Try.prog 38 #[.string x, .func (.func 45) #[] #[.pointer (some ⟨w.heap.size, 0, none⟩), .pointer (some ⟨w.heap.size + 2, 0, none⟩)]] (decW w n) fun e w' => e = .returned (.tuple #[]) ∧
      Own w.heap.size (w.heap.size + 3) w w' (decCells w.heap.size n [(0, wd x 0, rn x 0)]) := by
  have HE := each_any x 45 #[.pointer (some ⟨w.heap.size, 0, none⟩), .pointer (some ⟨w.heap.size + 2, 0, none⟩)] enters36 (decW w n) hxs (fun _ => false)
    (fun done W => done.length ≤ 1 ∧ Own w.heap.size (w.heap.size + 3) w W (decCells w.heap.size n done))
    ⟨by simp, decW_own w n x⟩
    (fun done W p p' h _ => ⟨h.1, by have := h.2.iterAt x p'; rw [decW_size]; exact this⟩)
    (fun done r l W he hg h _ => by
      have hd : done = [] := by rcases hg with h | h; exact h; cases h
      subst hd
      obtain ⟨_, h⟩ := h
      have hm : ∀ c, c ∈ decCells w.heap.size n [] → c ∈ decCells w.heap.size n [] := fun _ h => h
      have i0 : (w.heap.size, 0, Value.int .i64 n) ∈ decCells w.heap.size n [] := by simp [decCells]
      have i4 : (w.heap.size + 2, 0, Value.int .i64 0) ∈ decCells w.heap.size n [] := by simp [decCells, fst3]
      have i5 : (w.heap.size + 2, 1, Value.int .i64 0) ∈ decCells w.heap.size n [] := by simp [decCells, fst3]
      have i6 : (w.heap.size + 2, 2, Value.int .i64 0) ∈ decCells w.heap.size n [] := by simp [decCells, fst3]
      have hit := h.iter.2
      refine (dec_step w.heap.size (w.heap.size + 2) W n r.1 r.2.1 r.2.2 _ _ _ (h.low _ i0).2.2 (h.low _ i4).2.2 (h.cell _ i0) (h.cell _ i4) (h.cell _ i5) (h.cell _ i6) (h.free _ i4) (h.free _ i5) (h.free _ i6)).mono fun e W' ⟨he, o, hW⟩ => ?_
      subst hW
      refine ⟨he, ⟨by simp, ?_⟩, ?_⟩
      · have s1 := h.set (w.heap.size + 2) 0 i4 (.int .i64 n)
        have s2 := s1.set (w.heap.size + 2) 1 (v := .int .i64 0) (by simp [decCells, fst3]) (.int .i64 r.2.1)
        have s3 := (s2.set (w.heap.size + 2) 2 (v := .int .i64 0) (by simp [decCells, fst3]) (.int .i64 r.2.2)).alloc o
        simpa [decCells, fst3] using s3
      · rw [decW_size, iter_alloc (by simp; omega), iter_set (by omega), iter_set (by omega), iter_set (by omega)])
  rw [rest_at x 0 hx] at HE
  simp only [runTo, Bool.false_eq_true, if_false, List.nil_append] at HE
  exact HE.mono fun e w' h => ⟨h.1, h.2.2⟩

set_option maxHeartbeats 1000000 in
theorem decode_no (s : ByteArray) (n : Int) (w : World) (h : n < 0 ∨ (s.size : Int) ≤ n) : Calls Try.prog 37 #[.string s, .int .i64 n] w fun e w' => e = .returned (.tuple #[.agg #[.int .i64 0, .int .i64 0, .int .i64 0], .int .i64 1]) ∧ Below w.heap.size w w' := by
  rcases h with h | h
  · go_enter Try.func37, Try.ntmps37
    go_wp2
    exact bodyPost_ret (v := .tuple #[.agg #[.int .i64 0, .int .i64 0, .int .i64 0], .int .i64 1]) (by simp [results, Try.results37, go_sem]) rfl ⟨rfl, ((Below.refl _ _).alloc (Nat.le_refl _) _).alloc (by simp) _⟩
  · have h0 : ¬ n < 0 := by omega
    go_enter Try.func37, Try.ntmps37
    go_wp2
    exact bodyPost_ret (v := .tuple #[.agg #[.int .i64 0, .int .i64 0, .int .i64 0], .int .i64 1]) (by simp [results, Try.results37, go_sem]) rfl ⟨rfl, ((Below.refl _ _).alloc (Nat.le_refl _) _).alloc (by simp) _⟩

set_option maxHeartbeats 1000000 in
theorem decode_yes (s : ByteArray) (n : Nat) (w : World) (h : n < s.size) (hs : s.size ≤ 9223372036854775807) : Calls Try.prog 37 #[.string s, .int .i64 n] w fun e w' => e = .returned (.tuple #[.agg #[.int .i64 n, .int .i64 (wd s n), .int .i64 (rn s n)], .int .i64 0]) ∧ Below w.heap.size w w' := by
  have hz : (s.extract n s.size).size = s.size - n := by rw [ByteArray.size_extract]; omega
  have HE := decode_each (s.extract n s.size) n w (by omega) (by omega)
  rw [wd_extract, rn_extract] at HE
  simp only [Nat.add_zero] at HE
  clear hz
  unfold decW at HE
  go_enter Try.func37, Try.ntmps37
  go_wp2_with (go_at_call 38; refine HE.mono ?_; rintro e W ⟨rfl, hO⟩; have g0 := hO.cell _ (show (w.heap.size + 2, 0, Value.int .i64 n) ∈ _ by simp [decCells, fst3]); have g1 := hO.cell _ (show (w.heap.size + 2, 1, Value.int .i64 (wd s n)) ∈ _ by simp [decCells, fst3]); have g2 := hO.cell _ (show (w.heap.size + 2, 2, Value.int .i64 (rn s n)) ∈ _ by simp [decCells, fst3]); have j0 := hO.cell _ (show (w.heap.size + 1, 0, Value.int .i64 0) ∈ _ by simp [decCells]); have j1 := hO.cell _ (show (w.heap.size + 1, 1, Value.int .i64 0) ∈ _ by simp [decCells]); have j2 := hO.cell _ (show (w.heap.size + 1, 2, Value.int .i64 0) ∈ _ by simp [decCells]); have k0 := hO.free _ (show (w.heap.size + 1, 0, Value.int .i64 0) ∈ _ by simp [decCells]); have k1 := hO.free _ (show (w.heap.size + 1, 1, Value.int .i64 0) ∈ _ by simp [decCells]); have k2 := hO.free _ (show (w.heap.size + 1, 2, Value.int .i64 0) ∈ _ by simp [decCells]))
  refine bodyPost_ret (v := .tuple #[.agg #[.int .i64 n, .int .i64 (wd s n), .int .i64 (rn s n)], .int .i64 0]) (by simp [results, Try.results37, go_sem, j0, j1, j2]) rfl ⟨rfl, ?_⟩
  exact ((hO.below.setCell (by simp) _).setCell (by simp) _).setCell (by simp) _

#print axioms decode_yes
end Go.Proofs.Ytbgbhogcjaodkaa

/- The walks of invalid and between; what the iterator reads and keeps. -/
namespace Go.Proofs.Ytbgbhogcjaodkaa
open Go.RowKit

/-- An invalid byte? -/
def bdB (s : ByteArray) (p : Nat) : Bool := decide (rn s p = 65533 ∧ wd s p = 1)
theorem b1 (w : World) (o : Obj) : Below w.heap.size w (w.alloc o) := (Below.refl _ w).alloc (Nat.le_refl _) o
theorem bthen {w w1 w2 : World} {N : Nat} (h : Below N w w1) (hN : N ≤ w1.heap.size) (k : Below w1.heap.size w1 w2) : Below N w w2 := h.trans (k.mono hN)
set_option maxHeartbeats 1000000 in
theorem invalid_any (s : ByteArray) (p : Nat) (w : World) (hs : s.size ≤ 140737488351232) (hp : p < s.size) : Calls Try.prog 27 #[.string s, .int .i64 ((p : Int) + 1), .int .i32 (rn s p)] w fun e w' => e = .returned (.bool (bdB s p)) ∧ Below w.heap.size w w' := by
  have hrl := rn_le s p
  by_cases h : rn s p = 65533
  · have w1 : IntKind.i64.wrap ((p : Int) + 1 - 1) = (p : Int) := by rw [IntKind.wrap_i64]; omega
    have C := fun W => decode_yes s p W hp (by omega)
    have hw := wd_pos s p
    have hwl := wd_le s p hp
    have e : bdB s p = ((wd s p : Int) == 1) := by
      unfold bdB
      rw [Bool.eq_iff_iff, decide_eq_true_eq]; simp [h]; omega
    rw [e, h]
    rw [h] at C
    generalize wd s p = D at *
    go_enter Try.func27, Try.ntmps27
    go_wp2_with (go_at_call 37; refine (C _).mono ?_; rintro e w1 ⟨rfl, hb1⟩)
    go_ret
    exact ⟨rfl, bthen hb1 hb1.size (by first | exact b1 _ _ | exact (b1 _ _).setCell (by simp) _ | exact (((b1 _ _).setCell (by simp) _).setCell (by simp) _).setCell (by simp) _)⟩
  · have e : bdB s p = false := by unfold bdB; simp [h]
    have h' : ((rn s p : Int) != 65533) = true := by simp; omega
    rw [e]
    go_enter Try.func27, Try.ntmps27
    go_wp2
    go_ret
    exact ⟨rfl, Below.refl _ _⟩
theorem between_any (s : ByteArray) (a b : Int) (w : World) : Calls Try.prog 26 #[.string s, .int .i64 a, .int .i64 b] w fun e w' => e = .returned (.func (.func 41) #[] #[.pointer (some ⟨w.heap.size + 1, 0, none⟩), .pointer (some ⟨w.heap.size + 2, 0, none⟩), .pointer (some ⟨w.heap.size, 0, none⟩)]) ∧ w' = ((w.alloc (.cells #[.string s] 9)).alloc (.cells #[.int .i64 a] 3)).alloc (.cells #[.int .i64 b] 3) := by
  go_enter Try.func26, Try.ntmps26
  go_wp2
  go_ret
  exact ⟨by simp, rfl⟩
/-- What a call leaves: all blocks of No, as they were. -/
structure Keep (No : Nat → Prop) (w w' : World) : Prop where
  os : w'.os = w.os
  tape : w'.tape = w.tape
  output : w'.output = w.output
  size : w.heap.size ≤ w'.heap.size
  block : ∀ g, g < w.heap.size → No g → w'.heap[g]? = w.heap[g]?
theorem Keep.refl (No : Nat → Prop) (w : World) : Keep No w w := ⟨rfl, rfl, rfl, Nat.le_refl _, fun _ _ _ => rfl⟩
theorem Keep.trans {No : Nat → Prop} {w w1 w2 : World} (h : Keep No w w1) (k : Keep No w1 w2) : Keep No w w2 :=
  ⟨k.os.trans h.os, k.tape.trans h.tape, k.output.trans h.output, Nat.le_trans h.size k.size, fun g hg hn => (k.block g (Nat.lt_of_lt_of_le hg h.size) hn).trans (h.block g hg hn)⟩
theorem Keep.drew {No : Nat → Prop} {w w' : World} (h : Keep No w w') : Keep No w w'.drew := ⟨h.os, h.tape, h.output, h.size, h.block⟩
theorem Keep.alloc {No : Nat → Prop} {w w1 : World} (h : Keep No w w1) (o : Obj) : Keep No w (w1.alloc o) :=
  h.trans ⟨rfl, rfl, rfl, by simp, fun g hg _ => Below.heap_alloc _ _ _ hg⟩
theorem Keep.set {No : Nat → Prop} {w w1 : World} (h : Keep No w w1) {p : Addr} (hp : ¬ No p.block) (v : Value) : Keep No w (w1.setCell p v) :=
  h.trans ⟨rfl, rfl, rfl, by simp [World.setCell], fun g _ hn => Below.heap_setCell _ _ _ _ (fun e => hp (e ▸ hn))⟩
theorem Keep.of {No : Nat → Prop} {w w1 : World} (k : Below w.heap.size w w1) : Keep No w w1 := ⟨k.os, k.tape, k.output, k.size, fun g hg _ => k.block g hg⟩
theorem Keep.sub {No No' : Nat → Prop} {w w' : World} (h : Keep No w w') (hn : ∀ g, No' g → No g) : Keep No' w w' := ⟨h.os, h.tape, h.output, h.size, fun g hg q => h.block g hg (hn g q)⟩
theorem Keep.below {N : Nat} {No : Nat → Prop} {w w' : World} (h : Keep No w w') (hN : N ≤ w.heap.size) (hn : ∀ g, g < N → No g) : Below N w w' :=
  ⟨h.os, h.tape, h.output, h.size, fun g hg => h.block g (by omega) (hn g hg)⟩
/-- The runes from place a on that begin at place b or ahead. -/
def bw (s : ByteArray) (a : Nat) (b : Int) : List Rn := (rest s a).takeWhile (fun r => decide ((r.1 : Int) + 1 ≤ b))
theorem bw_at {s : ByteArray} {p : Nat} {b : Int} (h : p < s.size) (hb : (p : Int) + 1 ≤ b) : bw s p b = (p, wd s p, rn s p) :: bw s (p + wd s p) b := by
  unfold bw; rw [rest_at s p h, List.takeWhile_cons, if_pos (by simpa using hb)]
theorem bw_stop {s : ByteArray} {p : Nat} {b : Int} (hb : ¬ (p : Int) + 1 ≤ b) : bw s p b = [] := by
  unfold bw
  by_cases h : p < s.size
  · rw [rest_at s p h, List.takeWhile_cons, if_neg (by simpa using hb)]
  · rw [rest_end s p h]; rfl
theorem bw_end {s : ByteArray} {p : Nat} {b : Int} (h : ¬ p < s.size) : bw s p b = [] := by unfold bw; rw [rest_end s p h]; rfl
end Go.Proofs.Ytbgbhogcjaodkaa

/- The walk of the iterator that between answers: it tells the runes between two places. -/
namespace Go.Proofs.Ytbgbhogcjaodkaa
open Go.RowKit Go.Shelf
attribute [local go_sem] Oper.semAt_some

/-- A rune as the iterator hands it on: its place, its code point. -/
def encP (s : ByteArray) (x : Fin s.size) : Array Value := #[.int .i64 ((x.1 : Int) + 1), .int .i32 (rn s x.1)]
/-- The rune at a byte. -/
def rA (s : ByteArray) (x : Fin s.size) : Rn := (x.1, wd s x.1, rn s x.1)
theorem grown_of_below {w w' : World} (h : Below w.heap.size w w') : w.grownBy w' none := ⟨h.os, h.tape, h.output, h.size, fun k hk _ => h.block k hk⟩
theorem abides_below {β : Type} {B : Nat} {J : β → World → Prop} (hJ : AbidesFrom B J) {s : β} {w w' : World} (h : J s w) (k : Below w.heap.size w w') : J s w' := hJ s w w' none h (grown_of_below k) (fun r e => by cases e)
/-- What a round keeps: the blocks of Ks, and the text's iterator. -/
def KW (Ks : Nat → Prop) (A B : World) : Prop := Keep Ks A B ∧ KeepsWalks A B
/-- What the iterator reads: its three boxes. -/
structure It (w : World) (Ks : Nat → Prop) (X : Nat) (s : ByteArray) (a b : Int) : Prop where
  cs : w.cell? ⟨X, 0, none⟩ = some (.string s)
  ca : w.cell? ⟨X + 1, 0, none⟩ = some (.int .i64 a)
  cb : w.cell? ⟨X + 2, 0, none⟩ = some (.int .i64 b)
  lt : Ks X ∧ Ks (X + 1) ∧ Ks (X + 2)
theorem It.kept {w w' : World} {Ks : Nat → Prop} {X : Nat} {s : ByteArray} {a b : Int} (h : It w Ks X s a b) (k : Keep Ks w w') : It w' Ks X s a b := by
  obtain ⟨l1, l2, l3⟩ := h.lt
  exact ⟨by rw [World.cell?_of_block (w := w) (k.block X (World.block_lt_of_cell? w _ h.cs) l1)]; exact h.cs, by rw [World.cell?_of_block (w := w) (k.block (X + 1) (World.block_lt_of_cell? w _ h.ca) l2)]; exact h.ca, by rw [World.cell?_of_block (w := w) (k.block (X + 2) (World.block_lt_of_cell? w _ h.cb) l3)]; exact h.cb, h.lt⟩
/-- Where an iterator over a text stands. -/
def posOf (w : World) (k : Nat) : Nat := match w.heap[k]? with
  | some (.stringIter _ p) => p
  | _ => 0
theorem posOf_at {w : World} {k : Nat} {s : ByteArray} {p : Nat} (h : w.heap[k]? = some (.stringIter s p)) : posOf w k = p := by unfold posOf; rw [h]
theorem keep_iterAt {Ks : Nat → Prop} {W0 w : World} {k : Nat} {x : ByteArray} {p : Nat} (h : Keep Ks W0 w) (hk : ¬ Ks k) : Keep Ks W0 (w.iterAt k x p) :=
  h.trans ⟨rfl, rfl, rfl, by rw [Lib.iterAt_size]; exact Nat.le_refl _, fun g _ hg => Lib.iterAt_other w k g x p (fun e => hk (e ▸ hg))⟩
theorem abides_iterAt {β : Type} {B : Nat} {J : β → World → Prop} (hJ : AbidesFrom B J) {s : β} {w : World} {k : Nat} {x : ByteArray} {p p' : Nat} (h : J s w) (hi : w.heap[k]? = some (.stringIter x p)) (hB : B ≤ k) : J s (w.iterAt k x p') :=
  hJ s w _ (some k) h ⟨rfl, rfl, rfl, by rw [Lib.iterAt_size]; exact Nat.le_refl _, fun g _ hg => Lib.iterAt_other w k g x p' (fun e => hg (by rw [e]))⟩ (fun r e => by cases e; exact ⟨hB, _, hi, rfl⟩)
set_option maxRecDepth 100000 in
set_option maxHeartbeats 2000000 in
theorem iter_any (Ks : Nat → Prop) (l X : Nat) (s : ByteArray) (a : Nat) (b : Int) (hs : s.size ≤ 140737488351232) (hb : b ≤ s.size) (ha : (a : Int) + 1 ≤ b) (J Jx : List (Fin s.size) → World → Prop) (W : World) (hJ : AbidesFrom W.heap.size J)
    (hKl : ∀ g, Ks g → g < W.heap.size)
    (hY : ∀ pre x W1, J pre W1 → pre.length < 140737488351232 → YieldAt Fence.wide 4 Try.prog l (encP s x) W1 fun e W' =>
      (e = .returned (.bool true) ∧ J (pre ++ [x]) W' ∧ KW Ks W1 W') ∨ (e = .returned (.bool false) ∧ Jx (pre ++ [x]) W'))
    (hI : It W Ks X s ((a : Int) + 1) b) (h0 : J [] W) :
    CallsIn Fence.wide 5 Try.prog 41 #[.func (.yield l) #[] #[], .pointer (some ⟨X + 1, 0, none⟩), .pointer (some ⟨X + 2, 0, none⟩), .pointer (some ⟨X, 0, none⟩)] W fun e W' => (∃ v, e = .returned v) ∧
      ((∃ ys : List (Fin s.size), ys.map (rA s) = bw s a b ∧ J ys W') ∨ (∃ pre : List (Fin s.size), pre.map (rA s) <+: bw s a b ∧ Jx pre W')) := by
  have cs := hI.cs
  have ca := hI.ca
  have cb := hI.cb
  have hgt : ¬ b < (a : Int) + 1 := by omega
  have hmo : Try.prog.follows Departure.mixedOrders = true := by kernel_rfl
  have w1 : IntKind.i64.wrap ((a : Int) + 1 - 1) = (a : Int) := by rw [IntKind.wrap_i64]; omega
  have hal : (a : Int) ≤ (s.size : Int) := by omega
  obtain ⟨x, hx⟩ : ∃ x, s.extract a s.size = x := ⟨_, rfl⟩
  have hxz : x.size = s.size - a := by rw [← hx]; simp [ByteArray.size_extract]
  refine callsIn_of_wp Try.func41 rfl trivial ?_ rfl
  simp only [Try.ntmps41, List.size_toArray, List.length_cons, List.length_nil, Nat.reduceAdd, Nat.reduceSub, Array.replicate_succ, Array.replicate_zero, List.push_toArray, List.append_toArray, List.nil_append, List.cons_append]
  gi_wp2
  gi_loopw [] (fun wr => ∃ (q : Nat) (done : List (Fin s.size)), wr.heap[W.heap.size]? = some (.stringIter x q) ∧ done.length ≤ q ∧ q ≤ s.size ∧ Hid (bw s a b = done.map (rA s) ++ bw s (a + q) b) ∧ Hid (J done wr ∧ Keep Ks W wr)) (fun wr => x.size + 1 - posOf wr W.heap.size)
  case atStart => exact ⟨0, [], World.iter_heap W x 0, Nat.le_refl _, by omega, rfl, abides_below hJ h0 (b1 _ _), (Keep.refl _ _).alloc _⟩
  case round =>
    obtain ⟨q, done, hi, hdl, hqs, HB, HR⟩ := hrel
    clear cs ca cb
    have hIr := hI.kept HR.out.2
    have ca := hIr.ca
    have cb := hIr.cb
    clear hIr
    have hnk : ¬ Ks W.heap.size := fun h => by have := hKl _ h; omega
    have hp0 := posOf_at hi
    by_cases hq : q < x.size
    · have hnx : ∀ ty, (Instr.next (.pointer (some ⟨W.heap.size, 0, none⟩)) true ty).run Try.prog wr = .ok (.tuple #[.bool true, .int .i64 q, .int .i32 (rn x q)]) (wr.iterAt W.heap.size x (q + wd x q)) := fun ty => Lib.run_next_any_at wr W.heap.size x q ty hi hq
      have hwp := wd_pos x q
      have hwl := wd_le x q hq
      have hrl := rn_le x q
      have erx : rn x q = rn s (a + q) := by rw [← hx]; exact rn_extract s a q
      have ewx : wd x q = wd s (a + q) := by rw [← hx]; exact wd_extract s a q
      have hi2 := Lib.iterAt_heap wr W.heap.size x q (q + wd x q) hi
      have hJ2 := abides_iterAt hJ (p' := q + wd x q) HR.out.1 hi (Nat.le_refl _)
      have hk2 := keep_iterAt (x := x) (p := q + wd x q) HR.out.2 hnk
      obtain ⟨W2, hW2⟩ : ∃ W2, wr.iterAt W.heap.size x (q + wd x q) = W2 := ⟨_, rfl⟩
      rw [hW2] at hnx hi2 hJ2 hk2
      have hIr := hI.kept hk2
      have ca2 := hIr.ca
      have cb2 := hIr.cb
      clear hIr
      have wa : IntKind.i64.wrap ((a : Int) + 1 + (q : Int)) = (a : Int) + 1 + (q : Int) := by rw [IntKind.wrap_i64]; omega
      by_cases hle : b < (a : Int) + 1 + (q : Int)
      · have HE : Hid (bw s a b = done.map (rA s)) := by show _ = _; rw [HB.out, bw_stop (by omega)]; simp
        gi_wp2
        refine ⟨fun _ h => (by cases h), ?_⟩
        gi_wp2
        refine bodyPost_ret (results_none rfl _ _ _) rfl ?_
        exact ⟨⟨_, rfl⟩, .inl ⟨_, HE.out.symm, hJ2⟩⟩
      · have hlt : a + q < s.size := by omega
        have HE : Hid (bw s a b = done.map (rA s) ++ rA s ⟨a + q, hlt⟩ :: bw s (a + (q + wd x q)) b) := by
          show _ = _
          rw [HB.out, bw_at (p := a + q) (by omega) (by omega), ewx, Nat.add_assoc]; rfl
        obtain ⟨fn, tmps, assign, body, hy, hR⟩ := hY done ⟨a + q, hlt⟩ W2 hJ2 (by omega)
        dsimp only [encP] at hy
        rw [erx] at hnx
        have ea : (((a + q : Nat) : Int) + 1) = (a : Int) + 1 + (q : Int) := by omega
        rw [ea] at hy
        rw [erx] at hrl
        clear ea ewx erx
        generalize rn s (a + q) = R at hnx hy hrl
        gi_wp2
        refine hR.mono ?_
        rintro e W3 (⟨rfl, hJ5, hk5⟩ | ⟨rfl, hJx5⟩)
        · have hI5 := hI.kept (hk2.trans hk5.1)
          have hi5 := hk5.2.same _ _ hi2 rfl
          have hp5 := posOf_at hi5
          have HJ5 : Hid (J (done ++ [⟨a + q, hlt⟩]) W3 ∧ Keep Ks W W3) := ⟨hJ5, hk2.trans hk5.1⟩
          clear hJ5 hk5 hy hR hnx
          gi_wp2
          go_roundw
          case rel => exact ⟨q + wd x q, _, hi5, by simp; omega, by omega, by show _ = _; rw [HE.out]; simp, HJ5⟩
          case measure => rw [hp5, hp0]; omega
        · clear hy hR hnx
          gi_wp2
          refine bodyPost_ret (results_none rfl _ _ _) rfl ?_
          exact ⟨⟨_, rfl⟩, .inr ⟨_, ⟨bw s (a + (q + wd x q)) b, by rw [HE.out]; simp⟩, hJx5⟩⟩
    · have hnx : ∀ ty, (Instr.next (.pointer (some ⟨W.heap.size, 0, none⟩)) true ty).run Try.prog wr = .ok (.tuple #[.bool false]) wr := fun ty => Lib.run_next_end_at wr W.heap.size x q ty hi hq
      have HE : Hid (bw s a b = done.map (rA s)) := by show _ = _; rw [HB.out, bw_end (by omega)]; simp
      gi_wp2
      go_end0
      exact ⟨⟨_, rfl⟩, .inl ⟨_, HE.out.symm, HR.out.1⟩⟩
set_option maxHeartbeats 1000000 in
theorem iter_none (l X : Nat) (s : ByteArray) (a b : Int) (W : World) (Ks : Nat → Prop) (hI : It W Ks X s a b) (h : b < a) : CallsIn Fence.wide 5 Try.prog 41 #[.func (.yield l) #[] #[], .pointer (some ⟨X + 1, 0, none⟩), .pointer (some ⟨X + 2, 0, none⟩), .pointer (some ⟨X, 0, none⟩)] W fun e W' => (∃ v, e = .returned v) ∧ W' = W := by
  have ca := hI.ca
  have cb := hI.cb
  refine callsIn_of_wp Try.func41 rfl trivial ?_ rfl
  simp only [Try.ntmps41, List.size_toArray, List.length_cons, List.length_nil, Nat.reduceAdd, Nat.reduceSub, Array.replicate_succ, Array.replicate_zero, List.push_toArray, List.append_toArray, List.nil_append, List.cons_append]
  gi_wp2
  refine bodyPost_ret (results_none rfl _ _ _) rfl ?_
  exact ⟨⟨_, rfl⟩, rfl⟩
theorem iter_stops (Ks : Nat → Prop) (X : Nat) (s : ByteArray) (a : Nat) (b : Int) (hs : s.size ≤ 140737488351232) (hb : b ≤ s.size) (w : World) (hKl : ∀ g, Ks g → g < w.heap.size) (hI : It w Ks X s ((a : Int) + 1) b) :
    SeqStopsK Fence.wide 5 Try.prog 41 #[.pointer (some ⟨X + 1, 0, none⟩), .pointer (some ⟨X + 2, 0, none⟩), .pointer (some ⟨X, 0, none⟩)] (encP s) (KW Ks) (fun xs => xs.map (rA s) = bw s a b) (fun pre => pre.map (rA s) <+: bw s a b) 140737488351232 w :=
  fun l J Jx W hW hJ _ hY h0 => by
    have hI2 := hI.kept (Keep.of hW)
    by_cases ha : (a : Int) + 1 ≤ b
    · exact iter_any Ks l X s a b hs hb ha J Jx W hJ (fun g hg => Nat.lt_of_lt_of_le (hKl g hg) hW.size) hY hI2 h0
    · refine (iter_none l X s ((a : Int) + 1) b W Ks hI2 (by omega)).mono fun e W' hh => ⟨hh.1, .inl ⟨[], (bw_stop ha).symm, by rw [hh.2]; exact h0⟩⟩
theorem keepK_t {Ks : Nat → Prop} {A B C : World} (h : KW Ks A B) (k : KW Ks B C) : KW Ks A C := ⟨h.1.trans k.1, h.2.trans k.2⟩
theorem keepK_b {Ks : Nat → Prop} {w : World} (hk : ∀ g, Ks g → g < w.heap.size) (W : World) (l : Nat) (o o' : Obj) (hl : w.heap.size ≤ l) (h : W.heap[l]? = some o) (_ : o.isCells = false) (hw : o.isWalk = false) : KW Ks W (W.putObj l o') :=
  ⟨⟨rfl, rfl, rfl, by simp, fun g _ hg => World.putObj_heap_other (fun e => by have := hk g hg; omega)⟩, KeepsWalks.putObj _ h hw⟩
theorem ownFrom_of {β : Type} {B : Nat} {I : β → World → Prop} (h : ∀ s W W', I s W → Keep (fun g => g < B) W W' → I s W') : OwnFrom B I := fun s W W' row hs hg hr =>
  by
    obtain ⟨g1, g2, g3, g4, g5⟩ := hg
    exact h s W W' hs ⟨g1, g2, g3, g4, fun g hl hB => g5 g hl (fun e => by have hB' : g < B := hB; have := (hr g e.symm).1; omega)⟩
end Go.Proofs.Ytbgbhogcjaodkaa
