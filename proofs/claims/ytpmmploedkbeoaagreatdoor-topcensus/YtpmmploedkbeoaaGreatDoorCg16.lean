/- Replies: answer, stats. -/
import Derived.Test.YtpmmploedkbeoaaGreatDoorCg15
import Derived.Deep.MidRow
import Derived.Deep.Upon
import Derived.Deep.RegionHeld3
import Derived.Test.YtpmmploedkbeoaaGreatDoorCg13
import Derived.Maps.AppendAt
import Derived.Test.YtpmmploedkbeoaaGreatDoorCg14
namespace Go.Proofs.YtpmmploedkbeoaaGreatDoor
open Go.RowKit

/-- A reply with values and an error, and nothing else. -/
abbrev rp (v : Value) (e : Int) : Value := .agg #[v, .int .i64 e, .int .i64 0, .slice none 0 0, .slice none 0 0, .int .i64 0, .int .i64 0, .int .i64 0, .int .i64 0, .int .i64 0, .int .i64 0]
/-- A list of values that lies above B. -/
structure Rq (w : World) (B : Nat) (v : Value) (l : List V) : Prop where
  ex : ∃ a c, v = .slice a l.length c ∧ Vin w a l.length (fun i => l.getD i nil) ∧ ∀ g off, a = some ⟨g, off, none⟩ → B ≤ g
theorem Rq.below {w w' : World} {B : Nat} {v : Value} {l : List V} (h : Rq w B v l) (k : Below w.heap.size w w') : Rq w' B v l := by
  obtain ⟨a, c, h1, h2, h3⟩ := h.ex
  exact ⟨a, c, h1, h2.below k, h3⟩
theorem Rq.nil (w : World) (B : Nat) : Rq w B (.slice none 0 0) [] := ⟨none, 0, rfl, Vin.none _ _, fun g off q => by cases q⟩
set_option maxRecDepth 20000 in
set_option maxHeartbeats 2000000 in
theorem answer_ok (a : Option Addr) (L c : Nat) (w : World) : Calls Tryz.prog 35 #[.int .i64 0, .slice a L c] w fun e w' => e = .returned (rp (.slice a L c) 0) ∧ Below w.heap.size w w' := by
  have HB := b1 w (.cells #[.slice a L c, .int .i64 0, .int .i64 0, .slice none 0 0, .slice none 0 0, .int .i64 0, .int .i64 0, .int .i64 0, .int .i64 0, .int .i64 0, .int .i64 0] 35)
  have HB2 : Hid _ := HB
  clear HB
  go_enter Tryz.func35, Tryz.ntmps35
  go_wp2
  exact bodyPost_ret (v := rp (.slice a L c) 0) (by simp [results, Tryz.results35, go_sem]) rfl ⟨rfl, HB2.out⟩
set_option maxRecDepth 20000 in
set_option maxHeartbeats 2000000 in
theorem answer_bad (e : Int) (he : e ≠ 0) (a : Option Addr) (L c : Nat) (w : World) : Calls Tryz.prog 35 #[.int .i64 e, .slice a L c] w fun en w' => en = .returned (rp (.slice none 0 0) e) ∧ Below w.heap.size w w' := by
  have hb : (e == 0) = false := by simpa using he
  have hb' : (e != 0) = true := by simpa using he
  have HB := b1 w (.cells #[.slice none 0 0, .int .i64 e, .int .i64 0, .slice none 0 0, .slice none 0 0, .int .i64 0, .int .i64 0, .int .i64 0, .int .i64 0, .int .i64 0, .int .i64 0] 35)
  have HB2 : Hid _ := HB
  clear he HB
  go_enter Tryz.func35, Tryz.ntmps35
  go_wp2
  exact bodyPost_ret (v := rp (.slice none 0 0) e) (by simp [results, Tryz.results35, go_sem]) rfl ⟨rfl, HB2.out⟩
/-- A reply as it lies in block N, to be written. -/
structure R11 (w : World) (N : Nat) (v : Value) (e : Int) : Prop where
  c0 : w.cell? ⟨N, 0, none⟩ = some (v)
  c1 : w.cell? ⟨N, 1, none⟩ = some (.int .i64 e)
  c2 : w.cell? ⟨N, 2, none⟩ = some (.int .i64 0)
  c3 : w.cell? ⟨N, 3, none⟩ = some (.slice none 0 0)
  c4 : w.cell? ⟨N, 4, none⟩ = some (.slice none 0 0)
  c5 : w.cell? ⟨N, 5, none⟩ = some (.int .i64 0)
  c6 : w.cell? ⟨N, 6, none⟩ = some (.int .i64 0)
  c7 : w.cell? ⟨N, 7, none⟩ = some (.int .i64 0)
  c8 : w.cell? ⟨N, 8, none⟩ = some (.int .i64 0)
  c9 : w.cell? ⟨N, 9, none⟩ = some (.int .i64 0)
  c10 : w.cell? ⟨N, 10, none⟩ = some (.int .i64 0)
  fz : ∀ j, w.frozen? ⟨N, j, none⟩ = false
  lt : N < w.heap.size
theorem R11.block {w w' : World} {N : Nat} {v : Value} {e : Int} (h : R11 w N v e) (q : w'.heap[N]? = w.heap[N]?) (hs : w.heap.size ≤ w'.heap.size) : R11 w' N v e :=
  ⟨by rw [World.cell?_of_block (w := w) q]; exact h.c0, by rw [World.cell?_of_block (w := w) q]; exact h.c1, by rw [World.cell?_of_block (w := w) q]; exact h.c2, by rw [World.cell?_of_block (w := w) q]; exact h.c3, by rw [World.cell?_of_block (w := w) q]; exact h.c4, by rw [World.cell?_of_block (w := w) q]; exact h.c5, by rw [World.cell?_of_block (w := w) q]; exact h.c6, by rw [World.cell?_of_block (w := w) q]; exact h.c7, by rw [World.cell?_of_block (w := w) q]; exact h.c8, by rw [World.cell?_of_block (w := w) q]; exact h.c9, by rw [World.cell?_of_block (w := w) q]; exact h.c10, fun j => by rw [World.frozen?_of_block (w := w) q]; exact h.fz j, Nat.lt_of_lt_of_le h.lt hs⟩
theorem R11.kept {No : Nat → Prop} {w w' : World} {N : Nat} {v : Value} {e : Int} (h : R11 w N v e) (k : Keep No w w') (hn : No N) : R11 w' N v e := h.block (k.block N h.lt hn) k.size
theorem R11.below {w w' : World} {N : Nat} {v : Value} {e : Int} (h : R11 w N v e) (k : Below w.heap.size w w') : R11 w' N v e := h.kept (No := fun _ => True) (Keep.of k) trivial
theorem R11.made (w : World) (v : Value) (e : Int) : R11 (w.alloc (.cells #[v, .int .i64 e, .int .i64 0, .slice none 0 0, .slice none 0 0, .int .i64 0, .int .i64 0, .int .i64 0, .int .i64 0, .int .i64 0, .int .i64 0] 35)) w.heap.size v e := by
  have h := (MapKept.heap_alloc w (.cells #[v, .int .i64 e, .int .i64 0, .slice none 0 0, .slice none 0 0, .int .i64 0, .int .i64 0, .int .i64 0, .int .i64 0, .int .i64 0, .int .i64 0] 35)).1
  exact ⟨cell_of_row h 0, cell_of_row h 1, cell_of_row h 2, cell_of_row h 3, cell_of_row h 4, cell_of_row h 5, cell_of_row h 6, cell_of_row h 7, cell_of_row h 8, cell_of_row h 9, cell_of_row h 10, fun j => new_free w _ _ j, by simp⟩
/-- Its cells; what the store makes. -/
def cs11 (v : Value) (e : Int) : Array Value := #[v, .int .i64 e, .int .i64 0, .slice none 0 0, .slice none 0 0, .int .i64 0, .int .i64 0, .int .i64 0, .int .i64 0, .int .i64 0, .int .i64 0]
def set11 (w : World) (N : Nat) (v : Value) (e : Int) : World := w.setCells N 0 (cs11 v e).toList
theorem size_setCells' (b : Nat) : ∀ (vs : List Value) (o : Nat) (w : World), (w.setCells b o vs).heap.size = w.heap.size
  | [], _, _ => rfl
  | v :: r, o, w => by rw [World.setCells, size_setCells' b r (o + 1) (w.setCell ⟨b, o, none⟩ v)]; simp [World.setCell]
theorem tape_setCells' (b : Nat) : ∀ (vs : List Value) (o : Nat) (w : World), (w.setCells b o vs).tape = w.tape
  | [], _, _ => rfl
  | v :: r, o, w => by rw [World.setCells, tape_setCells' b r (o + 1) (w.setCell ⟨b, o, none⟩ v)]; rfl
theorem R11.there {w : World} {N : Nat} {v : Value} {e : Int} (h : R11 w N v e) : w.there N 0 11 := fun j hj => ⟨by
    rw [Nat.zero_add]
    obtain rfl | rfl | rfl | rfl | rfl | rfl | rfl | rfl | rfl | rfl | rfl : j = 0 ∨ j = 1 ∨ j = 2 ∨ j = 3 ∨ j = 4 ∨ j = 5 ∨ j = 6 ∨ j = 7 ∨ j = 8 ∨ j = 9 ∨ j = 10 := by omega
    · rw [h.c0]; rfl
    · rw [h.c1]; rfl
    · rw [h.c2]; rfl
    · rw [h.c3]; rfl
    · rw [h.c4]; rfl
    · rw [h.c5]; rfl
    · rw [h.c6]; rfl
    · rw [h.c7]; rfl
    · rw [h.c8]; rfl
    · rw [h.c9]; rfl
    · rw [h.c10]; rfl, by rw [Nat.zero_add]; exact h.fz j⟩
theorem R11.set {w : World} {N : Nat} {v0 : Value} {e0 : Int} (h : R11 w N v0 e0) (v : Value) (e : Int) : R11 (set11 w N v e) N v e := by
  have k : ∀ j u, (cs11 v e).toList[j]? = some u → (set11 w N v e).cell? ⟨N, j, none⟩ = some u := fun j u q => by
    have := World.rangeAt_setCells_same w N 0 (cs11 v e).toList h.there j u q
    rwa [Nat.zero_add] at this
  exact ⟨k 0 _ rfl, k 1 _ rfl, k 2 _ rfl, k 3 _ rfl, k 4 _ rfl, k 5 _ rfl, k 6 _ rfl, k 7 _ rfl, k 8 _ rfl, k 9 _ rfl, k 10 _ rfl, fun j => by unfold set11; rw [World.frozen?_setCells]; exact h.fz j, by
    have := h.lt
    unfold set11
    rw [Go.Proofs.YtpmmploedkbeoaaGreatDoor.size_setCells']
    exact this⟩
theorem R11.steps {U : World} {N : Nat} {v0 : Value} {e0 : Int} (h : R11 U N v0 e0) (v : Value) (e : Int) :
    ∃ U1 U2 U3 U4 U5 U6 U7 U8 U9 U10 U11 : World, (U.frozen? ⟨N, 0, none⟩ = false ∧ U.cell? ⟨N, 0, none⟩ = some (v0)) ∧ (U.setCell ⟨N, 0, none⟩ (v) = U1 ∧ U1.frozen? ⟨N, 1, none⟩ = false ∧ U1.cell? ⟨N, 1, none⟩ = some (.int .i64 e0)) ∧ (U1.setCell ⟨N, 1, none⟩ (.int .i64 e) = U2 ∧ U2.frozen? ⟨N, 2, none⟩ = false ∧ U2.cell? ⟨N, 2, none⟩ = some (.int .i64 0)) ∧ (U2.setCell ⟨N, 2, none⟩ (.int .i64 0) = U3 ∧ U3.frozen? ⟨N, 3, none⟩ = false ∧ U3.cell? ⟨N, 3, none⟩ = some (.slice none 0 0)) ∧ (U3.setCell ⟨N, 3, none⟩ (.slice none 0 0) = U4 ∧ U4.frozen? ⟨N, 4, none⟩ = false ∧ U4.cell? ⟨N, 4, none⟩ = some (.slice none 0 0)) ∧ (U4.setCell ⟨N, 4, none⟩ (.slice none 0 0) = U5 ∧ U5.frozen? ⟨N, 5, none⟩ = false ∧ U5.cell? ⟨N, 5, none⟩ = some (.int .i64 0)) ∧ (U5.setCell ⟨N, 5, none⟩ (.int .i64 0) = U6 ∧ U6.frozen? ⟨N, 6, none⟩ = false ∧ U6.cell? ⟨N, 6, none⟩ = some (.int .i64 0)) ∧ (U6.setCell ⟨N, 6, none⟩ (.int .i64 0) = U7 ∧ U7.frozen? ⟨N, 7, none⟩ = false ∧ U7.cell? ⟨N, 7, none⟩ = some (.int .i64 0)) ∧ (U7.setCell ⟨N, 7, none⟩ (.int .i64 0) = U8 ∧ U8.frozen? ⟨N, 8, none⟩ = false ∧ U8.cell? ⟨N, 8, none⟩ = some (.int .i64 0)) ∧ (U8.setCell ⟨N, 8, none⟩ (.int .i64 0) = U9 ∧ U9.frozen? ⟨N, 9, none⟩ = false ∧ U9.cell? ⟨N, 9, none⟩ = some (.int .i64 0)) ∧ (U9.setCell ⟨N, 9, none⟩ (.int .i64 0) = U10 ∧ U10.frozen? ⟨N, 10, none⟩ = false ∧ U10.cell? ⟨N, 10, none⟩ = some (.int .i64 0)) ∧ U10.setCell ⟨N, 10, none⟩ (.int .i64 0) = U11 ∧ set11 U N v e = U11 := by
  have ne : ∀ {W : World} {i j : Nat} (u : Value), i ≠ j → (W.setCell ⟨N, i, none⟩ u).cell? ⟨N, j, none⟩ = W.cell? ⟨N, j, none⟩ := fun u q => World.cell?_setCell_other _ _ _ _ (fun x => by injection x with _ x2; exact q x2)
  refine ⟨_, _, _, _, _, _, _, _, _, _, _, ⟨h.fz 0, h.c0⟩, ⟨rfl, ?f1, ?c1⟩, ⟨rfl, ?f2, ?c2⟩, ⟨rfl, ?f3, ?c3⟩, ⟨rfl, ?f4, ?c4⟩, ⟨rfl, ?f5, ?c5⟩, ⟨rfl, ?f6, ?c6⟩, ⟨rfl, ?f7, ?c7⟩, ⟨rfl, ?f8, ?c8⟩, ⟨rfl, ?f9, ?c9⟩, ⟨rfl, ?f10, ?c10⟩, rfl, rfl⟩
  case f1 => simp only [World.frozen?_setCell]; exact h.fz 1
  case c1 => rw [ne _ (by decide)]; exact h.c1
  case f2 => simp only [World.frozen?_setCell]; exact h.fz 2
  case c2 => rw [ne _ (by decide), ne _ (by decide)]; exact h.c2
  case f3 => simp only [World.frozen?_setCell]; exact h.fz 3
  case c3 => rw [ne _ (by decide), ne _ (by decide), ne _ (by decide)]; exact h.c3
  case f4 => simp only [World.frozen?_setCell]; exact h.fz 4
  case c4 => rw [ne _ (by decide), ne _ (by decide), ne _ (by decide), ne _ (by decide)]; exact h.c4
  case f5 => simp only [World.frozen?_setCell]; exact h.fz 5
  case c5 => rw [ne _ (by decide), ne _ (by decide), ne _ (by decide), ne _ (by decide), ne _ (by decide)]; exact h.c5
  case f6 => simp only [World.frozen?_setCell]; exact h.fz 6
  case c6 => rw [ne _ (by decide), ne _ (by decide), ne _ (by decide), ne _ (by decide), ne _ (by decide), ne _ (by decide)]; exact h.c6
  case f7 => simp only [World.frozen?_setCell]; exact h.fz 7
  case c7 => rw [ne _ (by decide), ne _ (by decide), ne _ (by decide), ne _ (by decide), ne _ (by decide), ne _ (by decide), ne _ (by decide)]; exact h.c7
  case f8 => simp only [World.frozen?_setCell]; exact h.fz 8
  case c8 => rw [ne _ (by decide), ne _ (by decide), ne _ (by decide), ne _ (by decide), ne _ (by decide), ne _ (by decide), ne _ (by decide), ne _ (by decide)]; exact h.c8
  case f9 => simp only [World.frozen?_setCell]; exact h.fz 9
  case c9 => rw [ne _ (by decide), ne _ (by decide), ne _ (by decide), ne _ (by decide), ne _ (by decide), ne _ (by decide), ne _ (by decide), ne _ (by decide), ne _ (by decide)]; exact h.c9
  case f10 => simp only [World.frozen?_setCell]; exact h.fz 10
  case c10 => rw [ne _ (by decide), ne _ (by decide), ne _ (by decide), ne _ (by decide), ne _ (by decide), ne _ (by decide), ne _ (by decide), ne _ (by decide), ne _ (by decide), ne _ (by decide)]; exact h.c10
theorem keep_set11 {No : Nat → Prop} {w w1 : World} (h : Keep No w w1) {N : Nat} (hN : ¬ No N) (v : Value) (e : Int) : Keep No w (set11 w1 N v e) := by
  have k : Keep (fun g => g ≠ N) w1 (set11 w1 N v e) := by
    refine ⟨World.os_setCells _ _ _ _, ?_, World.output_setCells _ _ _ _, by unfold set11; rw [size_setCells']; exact Nat.le_refl _, fun g hg hn => World.heap_setCells_other _ _ _ _ hg hn⟩
    exact tape_setCells' _ _ _ _
  exact h.trans (k.sub (fun g q e => hN (e ▸ q)))
theorem R11.store {U : World} {N : Nat} {v0 : Value} {e0 : Int} (h : R11 U N v0 e0) (v : Value) (e : Int) (hv : v.oneCell' = true) :
    (Instr.storeAt 35 (.pointer (some ⟨N, 0, none⟩)) (rp v e)).run Tryz.prog U = .ok () (set11 U N v e) :=
  run_storeAt_mid U N 0 35 (cs11 v e) h.there (by kernel_rfl) (by unfold cs11; rw [Array.all_eq_true_iff_forall_mem]; intro x hx; simp only [List.mem_toArray, List.mem_cons, List.not_mem_nil, or_false] at hx; rcases hx with h | h | h | h | h | h | h | h | h | h | h <;> rw [h] <;> first | exact hv | rfl)
theorem Vin.keep {No : Nat → Prop} {w w' : World} {a : Option Addr} {L : Nat} {F : Nat → V} (h : Vin w a L F) (k : Keep No w w') (hn : ∀ g off, a = some ⟨g, off, Option.none⟩ → No g) : Vin w' a L F := ⟨fun i hi => by
  obtain ⟨lb, off, q, hl, c0, c1, c2⟩ := h.at' i hi
  have eb := k.block lb hl (hn lb off q)
  exact ⟨lb, off, q, Nat.lt_of_lt_of_le hl k.size, by rw [World.cell?_of_block (w := w) eb]; exact c0, by rw [World.cell?_of_block (w := w) eb]; exact c1, by rw [World.cell?_of_block (w := w) eb]; exact c2⟩⟩
theorem Rq.keep {No : Nat → Prop} {w w' : World} {B : Nat} {u : Value} {l : List V} (h : Rq w B u l) (k : Keep No w w') (hn : ∀ g, B ≤ g → No g) : Rq w' B u l := by
  obtain ⟨a, c, h1, h2, h3⟩ := h.ex
  exact ⟨a, c, h1, h2.keep k (fun g off q => hn g (h3 g off q)), h3⟩
/-- The result's block is written last. -/
theorem rfin {w W0 V : World} {v0 : Value} {e0 : Int} (hw : Below w.heap.size w W0) (r : R11 W0 w.heap.size v0 e0) (k : Below W0.heap.size W0 V) (v : Value) (e : Int) :
    R11 V w.heap.size v0 e0 ∧ R11 (set11 V w.heap.size v e) w.heap.size v e ∧ Below w.heap.size w (set11 V w.heap.size v e) := by
  have r1 := r.below k
  refine ⟨r1, r1.set v e, ?_⟩
  have b := bthen hw hw.size k
  exact (keep_set11 (Keep.of b : Keep (fun g => g < w.heap.size) w V) (fun q => Nat.lt_irrefl _ q) v e).below (Nat.le_refl _) (fun g q => q)
theorem rq_set11 {w : World} {B N : Nat} {u : Value} {l : List V} (h : Rq w B u l) (hN : N < B) (v : Value) (e : Int) : Rq (set11 w N v e) B u l :=
  h.keep (No := fun g => g ≠ N) (keep_set11 (Keep.refl _ w) (fun q => q rfl) v e) (fun g q => by show g ≠ N; omega)
theorem Rq.low {w : World} {B B' : Nat} {u : Value} {l : List V} (h : Rq w B u l) (hB : B' ≤ B) : Rq w B' u l := by
  obtain ⟨a, c, h1, h2, h3⟩ := h.ex
  exact ⟨a, c, h1, h2, fun g off q => Nat.le_trans hB (h3 g off q)⟩
theorem rq5 (W : World) (x1 x2 x3 x4 x5 : V) : Rq (W.alloc (.cells #[.int .i64 x1.1, .int .i64 x1.2.1, .string x1.2.2, .int .i64 x2.1, .int .i64 x2.2.1, .string x2.2.2, .int .i64 x3.1, .int .i64 x3.2.1, .string x3.2.2, .int .i64 x4.1, .int .i64 x4.2.1, .string x4.2.2, .int .i64 x5.1, .int .i64 x5.2.1, .string x5.2.2] 37)) W.heap.size (.slice (some ⟨W.heap.size, 0, none⟩) 5 5) [x1, x2, x3, x4, x5] := by
  have h := (MapKept.heap_alloc W (.cells #[.int .i64 x1.1, .int .i64 x1.2.1, .string x1.2.2, .int .i64 x2.1, .int .i64 x2.2.1, .string x2.2.2, .int .i64 x3.1, .int .i64 x3.2.1, .string x3.2.2, .int .i64 x4.1, .int .i64 x4.2.1, .string x4.2.2, .int .i64 x5.1, .int .i64 x5.2.1, .string x5.2.2] 37)).1
  refine ⟨_, 5, rfl, ⟨fun i hi => ⟨_, 0, rfl, by simp, ?_⟩⟩, fun g off q => by cases q; exact Nat.le_refl _⟩
  have hi5 : i < 5 := hi
  obtain rfl | rfl | rfl | rfl | rfl : i = 0 ∨ i = 1 ∨ i = 2 ∨ i = 3 ∨ i = 4 := by omega
  all_goals exact ⟨cell_of_row h _, cell_of_row h _, cell_of_row h _⟩
theorem rq1 (W : World) (x : V) : Rq (W.alloc (.cells #[.int .i64 x.1, .int .i64 x.2.1, .string x.2.2] 37)) W.heap.size (.slice (some ⟨W.heap.size, 0, none⟩) 1 1) [x] := by
  have h := (MapKept.heap_alloc W (.cells #[.int .i64 x.1, .int .i64 x.2.1, .string x.2.2] 37)).1
  refine ⟨_, 1, rfl, ⟨fun i hi => ⟨_, 0, rfl, by simp, ?_⟩⟩, fun g off q => by cases q; exact Nat.le_refl _⟩
  have hi5 : i < 1 := hi
  obtain rfl : i = 0 := by omega
  exact ⟨cell_of_row h _, cell_of_row h _, cell_of_row h _⟩
theorem probes_any {w : World} {T A b a S : Nat} {t : TS} (h : Tm w T A b a S t) : Calls Tryz.prog 51 #[tp T] w fun e w' => e = .returned (.int .i64 t.pr) ∧ w' = w := by
  have c := h.c6
  clear h
  go_enter Tryz.func51, Tryz.ntmps51
  go_wp2
  go_ret; exact ⟨rfl, rfl⟩
theorem cell_set11 {U : World} {N g i : Nat} {u : Value} (h : U.cell? ⟨g, i, none⟩ = some u) (hn : g ≠ N) (v : Value) (e : Int) : (set11 U N v e).cell? ⟨g, i, none⟩ = some u := by
  have k : Keep (fun g => g ≠ N) U (set11 U N v e) := keep_set11 (Keep.refl _ U) (fun q => q rfl) v e
  generalize set11 U N v e = W' at k ⊢
  rw [World.cell?_of_block (w := U) (k.block g (World.block_lt_of_cell? U _ h) hn)]; exact h
end Go.Proofs.YtpmmploedkbeoaaGreatDoor

/- The walk of the host's stats. -/
namespace Go.Proofs.YtpmmploedkbeoaaGreatDoor
open Go.RowKit

set_option maxRecDepth 20000 in
set_option maxHeartbeats 4000000 in
theorem hstats_any {w : World} {T A b a S : Nat} {t : TS} (h : Tm w T A b a S t) : Calls Tryz.prog 45 #[tp T] w fun e w' => ∃ v, e = .returned (rp v 0) ∧ Rq w' w.heap.size v [kn (t.p.n : Nat), kn (t.p.z : Nat), kn (t.p.g.f : Nat), kn t.hint, kn t.pr] ∧ Below w.heap.size w w' := by
  have B0 := b1 w (.cells #[.slice none 0 0, .int .i64 0, .int .i64 0, .slice none 0 0, .slice none 0 0, .int .i64 0, .int .i64 0, .int .i64 0, .int .i64 0, .int .i64 0, .int .i64 0] 35)
  have R0 := R11.made w (.slice none 0 0) 0
  obtain ⟨W0, hW0⟩ : ∃ W0, w.alloc (.cells #[.slice none 0 0, .int .i64 0, .int .i64 0, .slice none 0 0, .slice none 0 0, .int .i64 0, .int .i64 0, .int .i64 0, .int .i64 0, .int .i64 0, .int .i64 0] 35) = W0 := ⟨_, rfl⟩
  rw [hW0] at B0 R0
  have h' := h.below B0
  have CT := stats_any h'
  have HH : Hid (Tm W0 T A b a S t) := h'
  have HB0 : Hid (Below w.heap.size w W0) := B0
  have HR0 : Hid (R11 W0 w.heap.size (.slice none 0 0) 0) := R0
  unfold ts sv tp at CT
  unfold tp
  clear h h' B0 R0
  go_enter Tryz.func45, Tryz.ntmps45
  go_wp2_with fail
  refine CT.mono ?_; rintro e w1 ⟨rfl, hb1⟩
  have HB1 : Hid (Below w.heap.size w w1) := bthen HB0.out HB0.out.size hb1
  have HBS : Hid (Below w1.heap.size w1 (w1.alloc (.cells #[.int .i64 (t.p.n : Nat), .int .i64 (t.p.z : Nat), .int .i64 (t.p.g.f : Nat), .int .i64 t.hint] 140))) := b1 _ _
  have hs1 := (MapKept.heap_alloc w1 (.cells #[.int .i64 (t.p.n : Nat), .int .i64 (t.p.z : Nat), .int .i64 (t.p.g.f : Nat), .int .i64 t.hint] 140)).1
  obtain ⟨W2, hW2⟩ : ∃ W2, w1.alloc (.cells #[.int .i64 (t.p.n : Nat), .int .i64 (t.p.z : Nat), .int .i64 (t.p.g.f : Nat), .int .i64 t.hint] 140) = W2 := ⟨_, rfl⟩
  rw [hW2] at HBS hs1
  have HC : Hid (∀ W, Below W2.heap.size W2 W → W.cell? ⟨w1.heap.size, 0, none⟩ = some (.int .i64 (t.p.n : Nat)) ∧ W.cell? ⟨w1.heap.size, 1, none⟩ = some (.int .i64 (t.p.z : Nat)) ∧ W.cell? ⟨w1.heap.size, 2, none⟩ = some (.int .i64 (t.p.g.f : Nat)) ∧ W.cell? ⟨w1.heap.size, 3, none⟩ = some (.int .i64 t.hint)) := fun W k => by
    have hlt : w1.heap.size < W2.heap.size := by rw [← hW2]; simp
    refine ⟨?_, ?_, ?_, ?_⟩ <;> rw [k.cell (by exact hlt)]
    · exact cell_of_row hs1 0
    · exact cell_of_row hs1 1
    · exact cell_of_row hs1 2
    · exact cell_of_row hs1 3
  have HW2 : Hid (Below w.heap.size w W2) := bthen HB1.out HB1.out.size HBS.out
  obtain ⟨c0, c1, c2, c3⟩ := HC.out W2 (Below.refl _ _)
  have HB1x : Hid (Below W0.heap.size W0 w1) := hb1
  clear CT hb1 hs1
  go_wp2_with fail
  have HN : Hid (Below W2.heap.size W2 W2.drew) := bdrN W2 1
  have HT : Hid (∀ W, Below W2.heap.size W2 W → Calls Tryz.prog 51 #[.pointer (some ⟨T, 0, none⟩)] W fun e w' => e = .returned (.int .i64 t.pr) ∧ w' = W) := fun W k => probes_any (HH.out.below ((HB1x.out.trans (HBS.out.mono HB1x.out.size)).trans (k.mono (Nat.le_trans HB1x.out.size HBS.out.size))))
  have HW02 : Hid (Below W0.heap.size W0 W2) := bthen HB1x.out HB1x.out.size HBS.out
  have HLT : Hid (w.heap.size < W2.heap.size) := Nat.lt_of_lt_of_le HR0.out.lt HW02.out.size
  have HNE : Hid (w1.heap.size ≠ w.heap.size) := by
    have := HR0.out.lt
    have := HB1x.out.size
    show w1.heap.size ≠ w.heap.size
    omega
  clear hW2 HB1 HBS
  go_region_held3 (fun W => W.cell? ⟨w1.heap.size, 0, none⟩ = some (.int .i64 (t.p.n : Nat)) ∧ W.cell? ⟨w1.heap.size, 1, none⟩ = some (.int .i64 (t.p.z : Nat)) ∧ W.cell? ⟨w1.heap.size, 2, none⟩ = some (.int .i64 (t.p.g.f : Nat)) ∧ W.cell? ⟨w1.heap.size, 3, none⟩ = some (.int .i64 t.hint))
    (first | exact HZ.out | exact HC.out _ HUk.out | exact HC.out _ HN.out | exact HC.out _ (bthen HN.out HN.out.size (b1 _ _)) | go_keep) (first
    | (go_at_call 43; refine (num43 _ _).mono ?_; unfold vl; rintro e W ⟨rfl, hb⟩; have HN : Hid (Below W2.heap.size W2 W) := bthen HN.out HN.out.size hb; clear hb)
    | (go_at_call 51; refine (HT.out _ HN.out).mono ?_; rintro e W ⟨rfl, hw⟩; rw [hw]; clear hw)
    | (go_at_call 35; refine (answer_ok _ _ _ _).mono ?_; rintro e U ⟨rfl, hu⟩; have hk : Below W2.heap.size W2 U := bthen HN.out HN.out.size (bthen (b1 W _) (b1 W _).size hu); have HQ2 : Rq U W2.heap.size (.slice (some ⟨W.heap.size, 0, none⟩) 5 5) [kn (t.p.n : Nat), kn (t.p.z : Nat), kn (t.p.g.f : Nat), kn t.hint, kn t.pr] := ((rq5 W (kn (t.p.n : Nat)) (kn (t.p.z : Nat)) (kn (t.p.g.f : Nat)) (kn t.hint) (kn t.pr)).below hu).low HN.out.size; obtain ⟨rU, rS, bS⟩ := rfin HB0.out HR0.out (HW02.out.trans (hk.mono HW02.out.size)) (.slice (some ⟨W.heap.size, 0, none⟩) 5 5) 0; have HQ3 := (rq_set11 HQ2 HLT.out (.slice (some ⟨W.heap.size, 0, none⟩) 5 5) 0).low (Nat.le_of_lt HLT.out); obtain ⟨y0, y1, y2, y3⟩ := HC.out U hk; have z0 := cell_set11 y0 HNE.out (.slice (some ⟨W.heap.size, 0, none⟩) 5 5) 0; have z1 := cell_set11 y1 HNE.out (.slice (some ⟨W.heap.size, 0, none⟩) 5 5) 0; have z2 := cell_set11 y2 HNE.out (.slice (some ⟨W.heap.size, 0, none⟩) 5 5) 0; have z3 := cell_set11 y3 HNE.out (.slice (some ⟨W.heap.size, 0, none⟩) 5 5) 0; obtain ⟨U1, U2, U3, U4, U5, U6, U7, U8, U9, U10, U11, ⟨f0, n0⟩, ⟨s0, f1, n1⟩, ⟨s1, f2, n2⟩, ⟨s2, f3, n3⟩, ⟨s3, f4, n4⟩, ⟨s4, f5, n5⟩, ⟨s5, f6, n6⟩, ⟨s6, f7, n7⟩, ⟨s7, f8, n8⟩, ⟨s8, f9, n9⟩, ⟨s9, f10, n10⟩, s10, se⟩ := rU.steps (.slice (some ⟨W.heap.size, 0, none⟩) 5 5) 0; rw [se] at rS bS HQ3 z0 z1 z2 z3; have HE : Hid (R11 U11 w.heap.size (.slice (some ⟨W.heap.size, 0, none⟩) 5 5) 0 ∧ Below w.heap.size w U11 ∧ Rq U11 w.heap.size (.slice (some ⟨W.heap.size, 0, none⟩) 5 5) [kn (t.p.n : Nat), kn (t.p.z : Nat), kn (t.p.g.f : Nat), kn t.hint, kn t.pr]) := ⟨rS, bS, HQ3⟩; have HZ : Hid (U11.cell? ⟨w1.heap.size, 0, none⟩ = some (.int .i64 (t.p.n : Nat)) ∧ U11.cell? ⟨w1.heap.size, 1, none⟩ = some (.int .i64 (t.p.z : Nat)) ∧ U11.cell? ⟨w1.heap.size, 2, none⟩ = some (.int .i64 (t.p.g.f : Nat)) ∧ U11.cell? ⟨w1.heap.size, 3, none⟩ = some (.int .i64 t.hint)) := ⟨z0, z1, z2, z3⟩; have HUk : Hid (Below W2.heap.size W2 U) := hk; clear rU rS bS HQ3 HQ2 hk hu se y0 y1 y2 y3 z0 z1 z2 z3))
  all_goals
    go_wp2
    have r0 := HE.out.1.c0
    have r1 := HE.out.1.c1
    have r2 := HE.out.1.c2
    have r3 := HE.out.1.c3
    have r4 := HE.out.1.c4
    have r5 := HE.out.1.c5
    have r6 := HE.out.1.c6
    have r7 := HE.out.1.c7
    have r8 := HE.out.1.c8
    have r9 := HE.out.1.c9
    have r10 := HE.out.1.c10
    exact bodyPost_ret (v := rp (.slice (some ⟨W.heap.size, 0, none⟩) 5 5) 0) (by simp [results, Tryz.results45, go_sem, r0, r1, r2, r3, r4, r5, r6, r7, r8, r9, r10]) rfl ⟨_, rfl, HE.out.2.2, HE.out.2.1⟩
end Go.Proofs.YtpmmploedkbeoaaGreatDoor

/- What changes others' blocks alone leaves a table as it is. -/
namespace Go.Proofs.YtpmmploedkbeoaaGreatDoor
open Go.RowKit

theorem TT.frame2 {No : Nat → Prop} {w w' : World} {T A b a S hb c : Nat} {t : TS} {s : H.St} (h : TT No w T A b a S hb c t s) (hos : w'.os = w.os) (ht : w'.tape = w.tape) (ho : w'.output = w.output) (hs : w.heap.size ≤ w'.heap.size) (hk : ∀ g, g < w.heap.size → ¬ No g → w'.heap[g]? = w.heap[g]?) :
    TT (fun g => No g ∨ (w.heap.size ≤ g ∧ g < w'.heap.size)) w' T A b a S hb c t s := by
  obtain ⟨vb, hp⟩ := h.hp
  have l1 := h.tm.pm.ltA
  have l2 := h.tm.pm.ltB
  have l3 := h.tm.pm.pt.lta
  have l4 := h.tm.pm.pt.ltb
  have k : Keep (fun g => ¬ No g) w w' := ⟨hos, ht, ho, hs, hk⟩
  refine ⟨h.tm.kept k h.nT h.nA h.nb h.na, ⟨vb, Hp.sub (Hp.frame2 hp hos ht ho hs (fun g hg hn => hk g hg (fun q => hn (.inl q)))) (fun g q => ?_)⟩, fun q => q.elim h.nT (by omega), fun q => q.elim h.nA (by omega), fun q => q.elim h.nb (by omega), fun q => q.elim h.na (by omega), h.ti, h.iv, h.p0, h.p1⟩
  rcases q with (q | q) | q
  · exact .inl (.inl q)
  · exact .inr q
  · exact .inl (.inr q)

end Go.Proofs.YtpmmploedkbeoaaGreatDoor

/- Operations on a table. -/
namespace Go.Proofs.YtpmmploedkbeoaaGreatDoor
open Go.RowKit

/-- A machine with one table, in memory; its blocks are among No. -/
structure Mt (No : Nat → Prop) (w : World) (M S hb c : Nat) (t : TS) (s : H.St) : Prop where
  ex : ∃ G cp T A b a, Mc w M S (.slice (some ⟨G, 0, none⟩) 1 cp) ∧ w.cell? ⟨G, 0, none⟩ = some (.pointer (some ⟨T, 0, none⟩)) ∧ TT No w T A b a S hb c t s ∧ No M ∧ No G
theorem TT.nos {No : Nat → Prop} {w : World} {T A b a S hb c : Nat} {t : TS} {s : H.St} (h : TT No w T A b a S hb c t s) {g : Nat} (q : No g) : g < w.heap.size := by
  obtain ⟨vb, hp⟩ := h.hp
  exact hp.nos _ (.inl q)
section
variable {No : Nat → Prop} {w w' : World} {M S hb c : Nat} {t : TS} {s : H.St}
theorem Mt.below (h : Mt No w M S hb c t s) (k : Below w.heap.size w w') : Mt No w' M S hb c t s := by
  obtain ⟨G, cp, T, A, b, a, h1, h2, h3, h4, h5⟩ := h.ex
  exact ⟨G, cp, T, A, b, a, h1.below k, (k.cell (p := ⟨G, 0, none⟩) (h3.nos h5)).trans h2, h3.below k, h4, h5⟩
theorem Mt.news (h : Mt No w M S hb c t s) (k : Below w.heap.size w w') : Mt (fun g => No g ∨ (w.heap.size ≤ g ∧ g < w'.heap.size)) w' M S hb c t s := by
  obtain ⟨G, cp, T, A, b, a, h1, h2, h3, h4, h5⟩ := h.ex
  exact ⟨G, cp, T, A, b, a, h1.below k, (k.cell (p := ⟨G, 0, none⟩) (h3.nos h5)).trans h2, h3.news k, .inl h4, .inl h5⟩
theorem Mt.more {c' : Nat} (h : Mt No w M S hb c t s) (hc : c ≤ c') : Mt No w M S hb c' t s := by
  obtain ⟨G, cp, T, A, b, a, h1, h2, h3, h4, h5⟩ := h.ex
  exact ⟨G, cp, T, A, b, a, h1, h2, h3.more hc, h4, h5⟩
theorem Mt.nos (h : Mt No w M S hb c t s) {g : Nat} (q : No g) : g < w.heap.size := by
  obtain ⟨G, cp, T, A, b, a, h1, h2, h3, h4, h5⟩ := h.ex
  exact h3.nos q
end
/-- An operation and the reply to it, each in a block of its own. -/
theorem entry2 (w : World) (k : Int) (nm : ByteArray) (v : Value) (p q : Int) :
    Below w.heap.size w ((w.alloc (.cells #[.int .i64 k, .string nm, v, .int .i64 p, .int .i64 q] 48)).alloc (.cells #[.slice none 0 0, .int .i64 0, .int .i64 0, .slice none 0 0, .slice none 0 0, .int .i64 0, .int .i64 0, .int .i64 0, .int .i64 0, .int .i64 0, .int .i64 0] 35)) ∧
    Ob ((w.alloc (.cells #[.int .i64 k, .string nm, v, .int .i64 p, .int .i64 q] 48)).alloc (.cells #[.slice none 0 0, .int .i64 0, .int .i64 0, .slice none 0 0, .slice none 0 0, .int .i64 0, .int .i64 0, .int .i64 0, .int .i64 0, .int .i64 0, .int .i64 0] 35)) w.heap.size k nm v p q ∧
    R11 ((w.alloc (.cells #[.int .i64 k, .string nm, v, .int .i64 p, .int .i64 q] 48)).alloc (.cells #[.slice none 0 0, .int .i64 0, .int .i64 0, .slice none 0 0, .slice none 0 0, .int .i64 0, .int .i64 0, .int .i64 0, .int .i64 0, .int .i64 0, .int .i64 0] 35)) (w.heap.size + 1) (.slice none 0 0) 0 := by
  have z : (w.alloc (.cells #[.int .i64 k, .string nm, v, .int .i64 p, .int .i64 q] 48)).heap.size = w.heap.size + 1 := by simp
  have r := R11.made (w.alloc (.cells #[.int .i64 k, .string nm, v, .int .i64 p, .int .i64 q] 48)) (.slice none 0 0) 0
  rw [z] at r
  exact ⟨b2 _ _ _, (Ob.made w k nm v p q).below (b1 _ _), r⟩
/-- What a reply's block takes: all that stood elsewhere stands. -/
structure Fin (No : Nat → Prop) (w : World) (B : Nat) (M S hb c : Nat) (t : TS) (s : H.St) (N : Nat) (v : Value) (er : Int) (l : List V) (W : World) : Prop where
  r : R11 W N v er
  m : Mt No W M S hb c t s
  k : Keep No w W
  q : Rq W B v l
theorem TT.set11 {No : Nat → Prop} {w : World} {T A b a S hb c : Nat} {t : TS} {s : H.St} (h : TT No w T A b a S hb c t s) {N : Nat} (hN : No N) (v : Value) (e : Int) : TT No (Go.Proofs.YtpmmploedkbeoaaGreatDoor.set11 w N v e) T A b a S hb c t s := by
  obtain ⟨vb, hp⟩ := h.hp
  have k : Keep (fun g => g ≠ N) w (Go.Proofs.YtpmmploedkbeoaaGreatDoor.set11 w N v e) := keep_set11 (Keep.refl _ w) (fun q => q rfl) v e
  refine (h.frame2 k.os k.tape k.output k.size (fun g hg hn => k.block g hg (fun e => hn (e ▸ hN)))).sub (fun g q => .inl q)
/-- A reply: its values l, its error er; the machine behind it; the values lie apart from the machine. -/
structure AskP (No : Nat → Prop) (w : World) (M S hb c : Nat) (t : TS) (s : H.St) (l : List V) (er : Int) (e : Ending) (w' : World) : Prop where
  ex : ∃ x n' c', e = .returned (rp (.slice x n' c') er) ∧ Rq w' w.heap.size (.slice x n' c') l ∧ ∃ No' : Nat → Prop, Mt No' w' M S hb c t s ∧ (∀ g, No g → No' g) ∧ (l ≠ [] → ∀ g off, x = some ⟨g, off, none⟩ → No' g)
  kp : Keep No w w'
theorem Mt.put11 {No : Nat → Prop} {w : World} {M S hb c : Nat} {t : TS} {s : H.St} (h : Mt No w M S hb c t s) {N : Nat} (hN : No N) (hM : M ≠ N) (hG : ∀ G cp, w.cell? ⟨M, 2, none⟩ = some (.slice (some ⟨G, 0, none⟩) 1 cp) → G ≠ N) (v : Value) (e : Int) : Mt No (Go.Proofs.YtpmmploedkbeoaaGreatDoor.set11 w N v e) M S hb c t s := by
  obtain ⟨G, cp, T, A, b, a, h1, h2, h3, h4, h5⟩ := h.ex
  have k : Keep (fun g => g ≠ N) w (Go.Proofs.YtpmmploedkbeoaaGreatDoor.set11 w N v e) := keep_set11 (Keep.refl _ w) (fun q => q rfl) v e
  exact ⟨G, cp, T, A, b, a, h1.kept k hM, cell_set11 h2 (hG G cp h1.c2) v e, h3.set11 hN v e, h4, h5⟩
theorem Mt.apart {No : Nat → Prop} {w : World} {M S hb c : Nat} {t : TS} {s : H.St} (h : Mt No w M S hb c t s) {N : Nat} {v : Value} (hN : w.cell? ⟨N, 0, none⟩ = some v) (hv : ∀ a, v ≠ .pointer a) : ∀ G cp, w.cell? ⟨M, 2, none⟩ = some (.slice (some ⟨G, 0, none⟩) 1 cp) → G ≠ N := fun G cp q e => by
  subst e
  obtain ⟨G', cp', T, A, b, a, g1, g2, g3, g4, g5⟩ := h.ex
  have e1 := g1.c2.symm.trans q
  injection e1 with e1
  injection e1 with e2 e3 e4
  injection e2 with e2
  injection e2 with e5
  rw [e5, hN] at g2
  injection g2 with g2
  exact hv _ g2
end Go.Proofs.YtpmmploedkbeoaaGreatDoor

/- An operation on a table, asked as any operation. -/
namespace Go.Proofs.YtpmmploedkbeoaaGreatDoor
open Go.RowKit

set_option maxRecDepth 20000 in
set_option maxHeartbeats 4000000 in
theorem do_table {No : Nat → Prop} {w : World} {M S hb c c' : Nat} {t t' : TS} {s s' : H.St} {l : List V} {er : Int} (h : Mt No w M S hb c t s) (kd p q : Int) (nm : ByteArray) (a : Option Addr) (L cp : Nat) (h1 : 8 ≤ kd) (h2 : kd ≤ 13)
    (C : ∀ (No2 : Nat → Prop) (W : World), Below w.heap.size w W → (∀ g, No g → No2 g) → Mt No2 W M S hb c t s → Calls Tryz.prog 22 #[.pointer (some ⟨M, 0, none⟩), .agg #[.int .i64 kd, .string nm, .slice a L cp, .int .i64 p, .int .i64 q]] W (AskP No2 W M S hb c' t' s' l er)) :
    Calls Tryz.prog 14 #[.pointer (some ⟨M, 0, none⟩), .agg #[.int .i64 kd, .string nm, .slice a L cp, .int .i64 p, .int .i64 q]] w (AskP No w M S hb c' t' s' l er) := by
  have k1 : (kd == 1) = false := by simp; omega
  have k2 : (kd == 14) = false := by simp; omega
  have k3 : ¬ kd < 8 := by omega
  have k4 : decide (kd < 8) = false := by simpa using k3
  obtain ⟨B0, O0, R0⟩ := entry2 w kd nm (.slice a L cp) p q
  have hnos : ∀ g, No g → g < w.heap.size := fun g z => h.nos z
  obtain ⟨W0, hW0⟩ : ∃ W0, (w.alloc (.cells #[.int .i64 kd, .string nm, .slice a L cp, .int .i64 p, .int .i64 q] 48)).alloc (.cells #[.slice none 0 0, .int .i64 0, .int .i64 0, .slice none 0 0, .slice none 0 0, .int .i64 0, .int .i64 0, .int .i64 0, .int .i64 0, .int .i64 0, .int .i64 0] 35) = W0 := ⟨_, rfl⟩
  rw [hW0] at B0 O0 R0
  have CC := C (fun g => No g ∨ (w.heap.size ≤ g ∧ g < W0.heap.size)) W0 B0 (fun g z => .inl z) (h.news B0)
  have o0 := O0.c0
  have o1 := O0.c1
  have o2 := O0.c2
  have o3 := O0.c3
  have o4 := O0.c4
  have HN : Hid (∀ g, No g → g < w.heap.size) := hnos
  have HB0 : Hid (Below w.heap.size w W0) := B0
  have HR0 : Hid (R11 W0 (w.heap.size + 1) (.slice none 0 0) 0) := R0
  have HM : Hid (Mt No w M S hb c t s) := h
  clear C O0 R0 B0 h hnos
  go_enter Tryz.func14, Tryz.ntmps14
  go_wp2_with fail
  refine CC.mono ?_; rintro e U ⟨⟨x, n, l', rfl, qv, No', mU, hN', hx⟩, kU⟩
  have hlt := HR0.out.lt
  have rU := HR0.out.kept kU (.inr ⟨by omega, hlt⟩)
  have rS := rU.set (.slice x n l') er
  have qS := (rq_set11 (N := w.heap.size + 1) qv hlt (.slice x n l') er).low (show w.heap.size ≤ W0.heap.size by omega)
  have kS : Keep No w (set11 U (w.heap.size + 1) (.slice x n l') er) := keep_set11 ((Keep.of HB0.out).trans (kU.sub (fun g z => .inl z))) (fun z => by have := HN.out _ z; omega) _ _
  have tS : Mt No' (set11 U (w.heap.size + 1) (.slice x n l') er) M S hb c' t' s' := mU.put11 (hN' _ (.inr ⟨by omega, hlt⟩)) (fun z => by
    obtain ⟨G, cpG, T, A, b, aT, m1, m2, m3, m4, m5⟩ := HM.out.ex
    have := HN.out _ m4
    omega) (mU.apart rU.c0 (fun _ q => by cases q)) _ _
  obtain ⟨U1, U2, U3, U4, U5, U6, U7, U8, U9, U10, U11, ⟨f0, n0⟩, ⟨s0, f1, n1⟩, ⟨s1, f2, n2⟩, ⟨s2, f3, n3⟩, ⟨s3, f4, n4⟩, ⟨s4, f5, n5⟩, ⟨s5, f6, n6⟩, ⟨s6, f7, n7⟩, ⟨s7, f8, n8⟩, ⟨s8, f9, n9⟩, ⟨s9, f10, n10⟩, s10, se⟩ := rU.steps (.slice x n l') er
  have HE : Hid (R11 U11 (w.heap.size + 1) (.slice x n l') er ∧ Rq U11 w.heap.size (.slice x n l') l ∧ Mt No' U11 M S hb c' t' s' ∧ Keep No w U11 ∧ (∀ g, No g → No' g) ∧ (l ≠ [] → ∀ g off, x = some ⟨g, off, none⟩ → No' g)) := by
    rw [se] at rS qS kS tS
    exact ⟨rS, qS, tS, kS, fun g z => hN' g (.inl z), hx⟩
  clear CC qv mU kU rU rS qS kS tS se hlt hN' hx
  go_wp2_with fail
  have r0 := HE.out.1.c0
  have r1 := HE.out.1.c1
  have r2 := HE.out.1.c2
  have r3 := HE.out.1.c3
  have r4 := HE.out.1.c4
  have r5 := HE.out.1.c5
  have r6 := HE.out.1.c6
  have r7 := HE.out.1.c7
  have r8 := HE.out.1.c8
  have r9 := HE.out.1.c9
  have r10 := HE.out.1.c10
  exact bodyPost_ret (v := rp (.slice x n l') er) (by simp [results, Tryz.results14, go_sem, r0, r1, r2, r3, r4, r5, r6, r7, r8, r9, r10]) rfl ⟨⟨_, _, _, rfl, HE.out.2.1, No', HE.out.2.2.1, HE.out.2.2.2.2.1, HE.out.2.2.2.2.2⟩, HE.out.2.2.2.1⟩
end Go.Proofs.YtpmmploedkbeoaaGreatDoor

/- A machine's first table. -/
namespace Go.Proofs.YtpmmploedkbeoaaGreatDoor
open Go.RowKit

theorem new_hp (w : World) (n : Int) (No : Nat → Prop) (hn : ∀ g, No g → g < w.heap.size) : H.Hp No ((w.alloc (.map #[] 0)).alloc (.cells #[.int .i64 n, .int .i64 0, .int .i64 0, .slice none 0 0, .map (some w.heap.size)] 71)) (w.heap.size + 1) w.heap.size 0 (.slice none 0 0) (H.newSt n) := by
  have e : (w.alloc (.map #[] 0)).heap.size = w.heap.size + 1 := by simp
  have hs := (MapKept.heap_alloc (w.alloc (.map #[] 0)) (.cells #[.int .i64 n, .int .i64 0, .int .i64 0, .slice none 0 0, .map (some w.heap.size)] 71)).1
  rw [e] at hs
  refine ⟨hs, World.ownsRow_nil _ _ _ _, (H.Rdy.made No w).alloc _, Nat.le_refl _, fun q => ?_, fun q => ?_, fun g e => (by cases e), fun g q => ?_⟩
  · have := hn _ q; omega
  · have := hn _ q; omega
  · have := hn _ q; simp; omega
theorem info90 : (Tryz.prog.info? 90).map (fun i => (i.zero, i.size, i.bytes)) = some (some (.pointer none), 1, 8) := by kernel_rfl
theorem app_tab (W : World) (T : Nat) : ∃ G cap w', (Builtin.append_ #[55, 55] 55 #[.slice none 0 0, .slice (some ⟨W.heap.size, 0, none⟩) 1 1]).run Tryz.prog (W.alloc (.cells #[.pointer (some ⟨T, 0, none⟩)] 90)) = .ok (.slice (some ⟨G, 0, none⟩) 1 cap) w' ∧ Below W.heap.size W w' ∧ W.heap.size ≤ G ∧ G < w'.heap.size ∧ w'.cell? ⟨G, 0, none⟩ = some (.pointer (some ⟨T, 0, none⟩)) := by
  obtain ⟨i0, hi, hz0, hz1, hz2⟩ := info_parts info90
  have b5 := b1 W (.cells #[.pointer (some ⟨T, 0, none⟩)] 90)
  have hc := (MapKept.heap_alloc W (.cells #[.pointer (some ⟨T, 0, none⟩)] 90)).1
  obtain ⟨v', w', hr, h2, h3, _, h5⟩ := run_append_own_at (P := Tryz.prog) (W.alloc (.cells #[.pointer (some ⟨T, 0, none⟩)] 90)) W.heap.size 55 55 90 i0 (.pointer none) 1 8 Tryz.underlying55 hi hz0 hz1 hz2 rfl (by omega) (.slice none 0 0) 0 [] (World.ownsRow_nil _ _ _ _) ⟨W.heap.size, 0, none⟩ 1 1 [.pointer (some ⟨T, 0, none⟩)] rfl (fun j u hu => by
    have hj : j < 1 := (List.getElem?_eq_some_iff.1 hu).1
    obtain rfl : j = 0 := by omega
    have : ((⟨W.heap.size, 0, none⟩ : Addr).add 0) = ⟨W.heap.size, 0, none⟩ := rfl
    rw [this]
    exact (cell_of_row hc 0).trans hu) (by intro u hu; simp at hu; rw [hu]; rfl) (by simp only [maxLen]; omega) (by omega) (by have := b5.size; omega)
  obtain ⟨G, cap, rfl, h6, h7⟩ := h2.form (by omega)
  refine ⟨G, cap, w', hr, b5.trans ⟨h3.os, h3.tape, h3.output, h3.size, fun g hg => h3.block g (by have := b5.size; omega) (by simp [Value.ownBlock])⟩, h6, h7, ?_⟩
  have := h2.cellAt 0 (by omega)
  rw [this]; rfl
end Go.Proofs.YtpmmploedkbeoaaGreatDoor

/- The pure part of a table, on: when a Set rehashes, and what is behind it. -/
namespace Go.Proofs.YtpmmploedkbeoaaGreatDoor
open Go.RowKit

theorem Fits.perm {l l' : List V} {A Z : Nat} (h : Fits l A Z) (hp : l.Perm l') : Fits l' A Z := by
  have ho : outK A l' = outK A l := (hp.countP_eq _).symm
  have hi : (ints l).Perm (ints l') := hp.filterMap _
  have hw : ∀ a, C.wi (ints l') a = C.wi (ints l) a := fun a => by unfold C.wi; rw [hi.countP_eq]
  have hd := h.dense
  refine ⟨h.a, h.z, by rw [ho]; exact h.room, ⟨hd.a0, hd.a1, rfl, ?_, fun j hj q => ?_⟩, by rw [ho]; exact h.up, h.pow⟩
  · rw [hw]; exact hd.half
  · rw [hw]; exact hd.most j hj q
/-- What due asks of a key and a value ahead of a Set. -/
def Due (p : Pa) (k v : V) : Prop := plc p k ≤ 0 ∧ (∀ i, i < p.z → p.g.K i ≠ nil) ∧ v.1 ≠ 0 ∧ fm k = true ∧ fm v = true ∧ k.1 ≠ 0
theorem tf_full {K : Nat → V} : ∀ f, (∀ i, i < f → K i ≠ nil) → tf K f = none := by
  intro f
  induction f with
  | zero => intro _; rfl
  | succ f ih => intro h; rw [tf, if_neg (h f (by omega))]; exact ih (fun i hi => h i (by omega))
theorem fnd_none {z : Nat} {g : G} {k : V} (hi : Inv z (pl z) KOK g) (hz : Rt z) (hk : KOK k) (h : (fnd z g k).1 = none) : ∀ i, i < z → g.K i ≠ k := fun i hiz e => by
  have hz0 : z ≠ 0 := by omega
  rw [fnd_good hz0 hk] at h
  cases hf : find (pl z) g k with
  | mk o n =>
    rw [hf] at h
    simp only at h
    subst h
    exact hi.find_none (fun k _ => pl_lt (hz.resolve_left hz0) k) hk.ne hf i hiz e
/-- A Set finds no node if and only if a rehash is due. -/
theorem due_iff {p : Pa} (h : TI p) {k v : V} (hr : Rng k) : Due p k v ↔ (fm k = true ∧ fm v = true ∧ k.1 ≠ 0 ∧ (pset p k v).2.2 = 12) := by
  constructor
  · rintro ⟨d1, d2, d3, d4, d5, d6⟩
    have hk : KOK k := ⟨d4, d6, hr.1, hr.2⟩
    refine ⟨d4, d5, d6, ?_⟩
    have hA : ¬ inA p.n k := fun q => by unfold plc at d1; rw [if_pos q] at d1; have := q.2.2.1; omega
    have hno : (fnd p.z p.g k).1 = none := by
      unfold plc at d1
      rw [if_neg hA] at d1
      cases hf : (fnd p.z p.g k).1 with
      | none => rfl
      | some i => rw [hf] at d1; simp only at d1; omega
    unfold pset
    rw [if_neg hA]
    show (put p.z p.g k v).2.2 = 12
    by_cases hz0 : p.z = 0
    · rw [put, if_pos ⟨d4, d5⟩, if_neg d6, if_pos hz0, if_neg d3]
    · rw [put, if_pos ⟨d4, d5⟩, if_neg d6, if_neg hz0]
      have hz' := h.rt.resolve_left hz0
      rw [fnd_good hz0 hk] at hno
      cases hf : find (pl p.z) p.g k with
      | mk o n =>
        rw [hf] at hno
        simp only at hno
        subst hno
        simp only
        rw [if_neg d3]
        have hpl := pl_lt hz' k
        have e : (ins (pl p.z) p.g k v).2 = false := by
          unfold ins
          rw [if_neg (d2 _ hpl), tf_full p.g.f (fun i hi => d2 i (by have := h.inv.fle; omega))]
        rw [e]; rfl
  · rintro ⟨d4, d5, d6, he⟩
    have hk : KOK k := ⟨d4, d6, hr.1, hr.2⟩
    obtain ⟨hA, _, hv0, hnew, hfull, _⟩ := h.full hk he
    refine ⟨?_, hfull, hv0, d4, d5, d6⟩
    unfold plc
    rw [if_neg hA]
    cases hf : fnd p.z p.g k with
    | mk o n =>
      cases o with
      | none => exact Int.le_refl _
      | some i =>
        exfalso
        have hz0 : p.z ≠ 0 := fun q => by
          have := (fnd_lt h.inv h.rt hr hf).1; omega
        rw [fnd_good hz0 hk] at hf
        obtain ⟨_, h2, h3⟩ := h.inv.find_some (fun k _ => pl_lt (h.rt.resolve_left hz0) k) hk hf
        exact hnew i (fnd_lt h.inv h.rt hr (by rw [fnd_good hz0 hk]; exact hf)).1 (by assumption)

theorem reh_err {u : TS} {s : H.St} {k : V} (h : (reh u s k).2.2 ≠ 0) : (reh u s k).1 = u := by
  unfold reh at h ⊢
  by_cases q : rsE u.p k = 0
  · rw [if_neg (fun x => x q)] at h ⊢
    by_cases q2 : tpE s (rsA u.p k) (rsZ u.p k) = 0
    · rw [if_neg (fun x => x q2)] at h; exact absurd rfl h
    · rw [if_pos q2]
  · rw [if_pos q]
theorem set_same {t : TS} {s : H.St} {k v : V} (h : TI t.p) (hr : Rng k) (hno : ¬ (Due t.p k v ∧ (tset t s k v).2.2 = 0)) : (tset t s k v).1.p.n = t.p.n ∧ (tset t s k v).1.p.z = t.p.z := by
  unfold tset at hno ⊢
  by_cases hf : fm k = true ∧ fm v = true
  · rw [if_neg (fun q => q hf)] at hno ⊢
    by_cases hk0 : k.1 = 0
    · rw [if_pos hk0]; exact ⟨rfl, rfl⟩
    · rw [if_neg hk0] at hno ⊢
      by_cases he : (pset t.p k v).2.2 = 12
      · rw [if_neg (fun q => q he)] at hno ⊢
        have hd := (due_iff h hr).2 ⟨hf.1, hf.2, hk0, he⟩
        by_cases hR : (reh (one t k v) s k).2.2 = 0
        · rw [if_neg (fun q => q hR)] at hno ⊢
          exfalso
          refine hno ⟨hd, ?_⟩
          have hk : KOK k := ⟨hf.1, hk0, hr.1, hr.2⟩
          have hs := tset_map (s := s) (k := k) (v := v) h hr
          have e : (tset t s k v).2.2 = (pset (reh (one t k v) s k).1.p k v).2.2 := by
            unfold tset
            rw [if_neg (fun q => q hf), if_neg hk0, if_neg (fun q => q he), if_neg (fun q => q hR)]
          show (pset (reh (one t k v) s k).1.p k v).2.2 = 0
          obtain ⟨hA, hv, hv0, hnew, _, _, _, ha⟩ := h.full hk he
          have h1 : TI (one t k v).p := h.set hr hv
          have hA1 : ¬ inA (one t k v).p.n k := by show ¬ inA (pset t.p k v).1.n k; rw [(pset_nz t.p k v).1]; exact hA
          have ep : pset t.p k v = ({ t.p with g := (put t.p.z t.p.g k v).1 }, (put t.p.z t.p.g k v).2.1, (put t.p.z t.p.g k v).2.2) := by unfold pset; rw [if_neg hA]
          have hnew1 : ∀ i, i < (one t k v).p.z → (one t k v).p.g.K i ≠ k := fun i hi e => by
            have hi2 : i < t.p.z := by rw [← (pset_nz t.p k v).2]; exact hi
            have he' : (put t.p.z t.p.g k v).2.2 = 12 := by rw [ep] at he; exact he
            have e2 := (put_12 h.inv h.rt hk he').2.2.2.2.1
            have e3 : (pset t.p k v).1.g.K i = k := e
            rw [ep] at e3
            have e4 : (put t.p.z t.p.g k v).1.K i = k := e3
            rw [e2] at e4
            exact hnew i hi2 e4
          have e0 : rsE (one t k v).p k = 0 := by
            unfold reh at hR
            by_cases q : rsE (one t k v).p k = 0
            · exact q
            · rw [if_pos q] at hR; exact absurd hR q
          have e1 : (reh (one t k v) s k).1.p = fill (one t k v).p (fresh (rsA (one t k v).p k) (rsZ (one t k v).p k)) := by
            unfold reh at hR ⊢
            rw [if_neg (fun q => q e0)] at hR ⊢
            by_cases q : tpE s (rsA (one t k v).p k) (rsZ (one t k v).p k) = 0
            · rw [if_neg (fun x => x q)]
            · rw [if_pos q] at hR; exact absurd hR q
          rw [e1]
          exact (h1.behind hk hv hv0 hA1 hnew1 ha e0).2.2.2.2.2
        · rw [if_pos hR, reh_err hR]
          exact pset_nz t.p k v
      · rw [if_pos he]; exact pset_nz t.p k v
  · rw [if_pos hf]; exact ⟨rfl, rfl⟩
theorem set_due {t : TS} {s : H.St} {k v : V} (h : TI t.p) (hr : Rng k) (hd : Due t.p k v) (hz : (tset t s k v).2.2 = 0) (ti' : TI (tset t s k v).1.p) :
    Fits (pres (tset t s k v).1.p) (tset t s k v).1.p.n (tset t s k v).1.p.z ∧ (tset t s k v).1.hint = 0 := by
  obtain ⟨d4, d5, d6, he⟩ := (due_iff h hr).1 hd
  have hk : KOK k := ⟨d4, d6, hr.1, hr.2⟩
  obtain ⟨mk1, _, mk2, mk3⟩ := (tset_map (s := s) (k := k) (v := v) h hr).1 hz
  obtain ⟨hA, hv, hv0, hnew, _, _, hpp, ha⟩ := h.full hk he
  have h1 : TI (one t k v).p := h.set hr hv
  have hb : ∀ k', pget (pset t.p k v).1 k' = pget t.p k' := pset_bad (by rw [he]; decide)
  have et : tset t s k v = if (reh (one t k v) s k).2.2 ≠ 0 then reh (one t k v) s k
      else ({ (reh (one t k v) s k).1 with p := (pset (reh (one t k v) s k).1.p k v).1 }, (reh (one t k v) s k).2.1, (pset (reh (one t k v) s k).1.p k v).2.2) := by
    unfold tset
    rw [if_neg (fun q => q ⟨d4, d5⟩), if_neg d6, if_neg (fun q => q he)]
  have hR : (reh (one t k v) s k).2.2 = 0 := by
    by_cases q : (reh (one t k v) s k).2.2 = 0
    · exact q
    · rw [et, if_pos q] at hz; exact absurd hz q
  rw [if_neg (fun q => q hR)] at et
  have e0 : rsE (one t k v).p k = 0 := by
    unfold reh at hR
    by_cases q : rsE (one t k v).p k = 0
    · exact q
    · rw [if_pos q] at hR; exact absurd hR q
  have e1 : (reh (one t k v) s k).1.p = fill (one t k v).p (fresh (rsA (one t k v).p k) (rsZ (one t k v).p k)) ∧ (reh (one t k v) s k).1.hint = 0 := by
    unfold reh at hR ⊢
    rw [if_neg (fun q => q e0)] at hR ⊢
    by_cases q : tpE s (rsA (one t k v).p k) (rsZ (one t k v).p k) = 0
    · rw [if_neg (fun x => x q)]; exact ⟨rfl, rfl⟩
    · rw [if_pos q] at hR; exact absurd hR q
  obtain ⟨_, F, _, _⟩ := (cens (p := (one t k v).p) ha.ok ha.nd).resolve_left (fun q => by rw [e0] at q; cases q)
  have hnz : (tset t s k v).1.p.n = rsA (one t k v).p k ∧ (tset t s k v).1.p.z = rsZ (one t k v).p k := by
    rw [et]
    show (pset (reh (one t k v) s k).1.p k v).1.n = _ ∧ (pset (reh (one t k v) s k).1.p k v).1.z = _
    rw [(pset_nz _ k v).1, (pset_nz _ k v).2, e1.1, (fill_nz _ _).1, (fill_nz _ _).2]
    exact ⟨rfl, rfl⟩
  refine ⟨?_, by rw [et]; exact e1.2⟩
  rw [hnz.1, hnz.2]
  refine F.perm ?_
  refine (List.perm_ext_iff_of_nodup ha.nd ti'.pres_nd).2 fun k' => ?_
  rw [ti'.mem_pres, List.mem_append, List.mem_singleton]
  have hm1 : ∀ k', k' ∈ pres (one t k v).p ↔ KOK k' ∧ (pget t.p k').1 ≠ 0 := fun k' => by rw [h1.mem_pres]; show _ ∧ (pget (pset t.p k v).1 k').1 ≠ 0 ↔ _; rw [hb]
  have hm2 := hm1 k'
  constructor
  · rintro (q | rfl)
    · obtain ⟨q1, q2⟩ := hm2.1 q
      refine ⟨q1, ?_⟩
      by_cases e : k' = k
      · subst e; rw [mk2]; exact hv0
      · rw [mk3 k' q1 e]; exact q2
    · exact ⟨hk, by rw [mk2]; exact hv0⟩
  · rintro ⟨q1, q2⟩
    by_cases e : k' = k
    · exact .inr e
    · left
      rw [mk3 k' q1 e] at q2
      exact hm2.2 ⟨q1, q2⟩
end Go.Proofs.YtpmmploedkbeoaaGreatDoor
