/- A hash part of the program's in memory; what a call leaves as it was; the walks of Size, Free, holds, beyond. -/
import Derived.Test.YtbkgbojfjijalaaGl
import Derived.Test.YtbkgbojfjijalaaRmain
import Derived.MapKept
import Derived.RegionTactic
import Derived.Laws.MakeOwn
import Derived.OwnWalk
namespace Go.Proofs.Ytbkgbojfjijalaa
open Go.RowKit

/-- Which values may be keys, and where they belong. -/
def KOK (v : V) : Prop := inF v.1 v.2.1 v.2.2 = true ∧ v.1 ≠ 0 ∧ -9223372036854775808 ≤ v.2.1 ∧ v.2.1 ≤ 9223372036854775807
def pl (z : Nat) (v : V) : Nat := (mp v.1 v.2.1 v.2.2 z).toNat
theorem KOK.ne {v : V} (h : KOK v) : v ≠ nil := fun e => h.2.1 (by rw [e]; rfl)
theorem mp_bounds (v : V) {z : Int} (hz : pw z = true) : 0 ≤ mp v.1 v.2.1 v.2.2 z ∧ mp v.1 v.2.1 v.2.2 z < z := by
  obtain ⟨hz0, hz1⟩ := pw_bounds z hz
  obtain ⟨d0, d1, d2⟩ := dm_pos z hz0 hz1
  have m1 := fun x : Int => Int.emod_nonneg x (show z ≠ 0 by omega)
  have m2 := fun x : Int => Int.emod_lt_of_pos x (show 0 < z by omega)
  have m3 := fun x : Int => Int.emod_nonneg x (show dm z ≠ 0 by omega)
  have m4 := fun x : Int => Int.emod_lt_of_pos x (show 0 < dm z by omega)
  unfold mp
  split
  · exact ⟨m1 _, m2 _⟩
  · split
    · exact ⟨m3 _, Int.lt_of_lt_of_le (m4 _) d2⟩
    · split
      · exact ⟨m1 _, m2 _⟩
      · exact ⟨m3 _, Int.lt_of_lt_of_le (m4 _) d2⟩
theorem pl_lt {z : Nat} (hz : pw z = true) (v : V) : pl z v < z := by
  have := mp_bounds v hz
  unfold pl; omega
theorem pl_cast {z : Nat} (hz : pw z = true) (v : V) : ((pl z v : Nat) : Int) = mp v.1 v.2.1 v.2.2 z := by
  have := mp_bounds v hz
  unfold pl; omega

/-- A row of nodes: the seven cells of each. -/
def nc (k x : V) (l : Int) : Nat → Value
  | 0 => .int .i64 k.1
  | 1 => .int .i64 k.2.1
  | 2 => .string k.2.2
  | 3 => .int .i64 x.1
  | 4 => .int .i64 x.2.1
  | 5 => .string x.2.2
  | _ => .int .i64 l
structure Rc (w : World) (a z : Nat) (F : Nat → Nat → Value) : Prop where
  c : ∀ i, i < z → ∀ j, j < 7 → w.cell? ⟨a, i * 7 + j, none⟩ = some (F i j)
theorem Rc.set {w : World} {a z : Nat} {F : Nat → Nat → Value} (h : Rc w a z F) {i0 j0 : Nat} (hi : i0 < z) (hj : j0 < 7) (v : Value) :
    Rc (w.setCell ⟨a, i0 * 7 + j0, none⟩ v) a z (fun i j => if i = i0 ∧ j = j0 then v else F i j) := ⟨fun i hi2 j hj2 => by
  by_cases e : i = i0 ∧ j = j0
  · obtain ⟨rfl, rfl⟩ := e
    rw [if_pos ⟨rfl, rfl⟩]
    exact World.cell?_setCell_same _ _ _ (h.c i hi j hj)
  · rw [if_neg e, World.cell?_setCell_other _ _ _ _ (fun q => by injection q with _ q2; omega)]
    exact h.c i hi2 j hj2⟩
theorem Rc.congr {w : World} {a z : Nat} {F F' : Nat → Nat → Value} (h : Rc w a z F) (he : ∀ i, i < z → ∀ j, j < 7 → F i j = F' i j) : Rc w a z F' := ⟨fun i hi j hj => by rw [h.c i hi j hj, he i hi j hj]⟩
theorem Rc.other {w : World} {a z : Nat} {F : Nat → Nat → Value} (h : Rc w a z F) {p : Addr} (hp : p.block ≠ a) (v : Value) : Rc (w.setCell p v) a z F := ⟨fun i hi j hj => by
  rw [World.cell?_setCell_other _ _ _ _ (fun q => hp (by rw [q]))]; exact h.c i hi j hj⟩
theorem Rc.block {w w' : World} {a z : Nat} {F : Nat → Nat → Value} (h : Rc w a z F) (hb : w'.heap[a]? = w.heap[a]?) : Rc w' a z F := ⟨fun i hi j hj => by
  rw [World.cell?_of_block (w := w) hb]; exact h.c i hi j hj⟩

/-- What a call leaves: all blocks that were there and that No names. -/
structure Keep (No : Nat → Prop) (w w' : World) : Prop where
  os : w'.os = w.os
  tape : w'.tape = w.tape
  output : w'.output = w.output
  size : w.heap.size ≤ w'.heap.size
  block : ∀ g, g < w.heap.size → No g → w'.heap[g]? = w.heap[g]?
theorem Keep.refl (No : Nat → Prop) (w : World) : Keep No w w := ⟨rfl, rfl, rfl, Nat.le_refl _, fun _ _ _ => rfl⟩
theorem Keep.trans {No : Nat → Prop} {w w1 w2 : World} (h : Keep No w w1) (k : Keep No w1 w2) : Keep No w w2 :=
  ⟨k.os.trans h.os, k.tape.trans h.tape, k.output.trans h.output, Nat.le_trans h.size k.size, fun g hg hn => (k.block g (Nat.lt_of_lt_of_le hg h.size) hn).trans (h.block g hg hn)⟩
theorem Keep.drew {No : Nat → Prop} {w w' : World} (h : Keep No w w') : Keep No w w'.drew := ⟨h.os, h.tape, h.output, h.size, h.block⟩
theorem Keep.alloc {No : Nat → Prop} {w w1 : World} (h : Keep No w w1) (o : Obj) : Keep No w (w1.alloc o) :=
  h.trans ⟨rfl, rfl, rfl, by simp, fun g hg _ => Below.heap_alloc _ _ _ hg⟩
theorem Keep.set {No : Nat → Prop} {w w1 : World} (h : Keep No w w1) {p : Addr} (hp : ¬ No p.block) (v : Value) : Keep No w (w1.setCell p v) :=
  h.trans ⟨rfl, rfl, rfl, by simp [World.setCell], fun g _ hn => Below.heap_setCell _ _ _ _ (fun e => hp (e ▸ hn))⟩
theorem Keep.bel {No : Nat → Prop} {w w1 w2 : World} (h : Keep No w w1) (k : Below w1.heap.size w1 w2) : Keep No w w2 :=
  h.trans ⟨k.os, k.tape, k.output, k.size, fun g hg _ => k.block g hg⟩
theorem Keep.of {No : Nat → Prop} {w w1 : World} (k : Below w.heap.size w w1) : Keep No w w1 := ⟨k.os, k.tape, k.output, k.size, fun g hg _ => k.block g hg⟩
theorem Keep.sub {No No' : Nat → Prop} {w w' : World} (h : Keep No w w') (hn : ∀ g, No' g → No g) : Keep No' w w' := ⟨h.os, h.tape, h.output, h.size, fun g hg q => h.block g hg (hn g q)⟩
theorem Keep.below {N : Nat} {No : Nat → Prop} {w w' : World} (h : Keep No w w') (hN : N ≤ w.heap.size) (hn : ∀ g, g < N → No g) : Below N w w' :=
  ⟨h.os, h.tape, h.output, h.size, fun g hg => h.block g (by omega) (hn g hg)⟩

/-- The program's part: the struct in block b, its nodes in block a. -/
def nf (pl : V → Nat) (g : G) (i j : Nat) : Value := nc (g.K i) (g.X i) (link pl g i) j
structure Pt (w : World) (b a z : Nat) (g : G) : Prop where
  all : w.cell? ⟨b, 0, none⟩ = some (.slice (some ⟨a, 0, none⟩) z z)
  fre : w.cell? ⟨b, 1, none⟩ = some (.int .i64 (g.f : Nat))
  row : Rc w a z (nf (pl z) g)
  fb : ∀ j, w.frozen? ⟨b, j, none⟩ = false
  fa : ∀ j, w.frozen? ⟨a, j, none⟩ = false
  ne : b ≠ a
  ltb : b < w.heap.size
  lta : a < w.heap.size
theorem Pt.kept {No : Nat → Prop} {w w' : World} {b a z : Nat} {g : G} (h : Pt w b a z g) (k : Keep No w w') (hb : No b) (ha : No a) : Pt w' b a z g :=
  ⟨by rw [World.cell?_of_block (w := w) (k.block b h.ltb hb)]; exact h.all, by rw [World.cell?_of_block (w := w) (k.block b h.ltb hb)]; exact h.fre, h.row.block (k.block a h.lta ha),
   fun j => by rw [World.frozen?_of_block (w := w) (k.block b h.ltb hb)]; exact h.fb j, fun j => by rw [World.frozen?_of_block (w := w) (k.block a h.lta ha)]; exact h.fa j, h.ne, Nat.lt_of_lt_of_le h.ltb k.size, Nat.lt_of_lt_of_le h.lta k.size⟩
theorem Pt.below {w w' : World} {b a z : Nat} {g : G} (h : Pt w b a z g) (k : Below w.heap.size w w') : Pt w' b a z g := h.kept (No := fun _ => True) (Keep.of k) trivial trivial
theorem Pt.k {w : World} {b a z : Nat} {g : G} (h : Pt w b a z g) {i : Nat} (hi : i < z) : w.cell? ⟨a, i * 7, none⟩ = some (.int .i64 (g.K i).1) ∧ w.cell? ⟨a, i * 7 + 1, none⟩ = some (.int .i64 (g.K i).2.1) ∧ w.cell? ⟨a, i * 7 + 2, none⟩ = some (.string (g.K i).2.2) :=
  ⟨h.row.c i hi 0 (by omega), h.row.c i hi 1 (by omega), h.row.c i hi 2 (by omega)⟩
theorem Pt.x {w : World} {b a z : Nat} {g : G} (h : Pt w b a z g) {i : Nat} (hi : i < z) : w.cell? ⟨a, i * 7 + 3, none⟩ = some (.int .i64 (g.X i).1) ∧ w.cell? ⟨a, i * 7 + 4, none⟩ = some (.int .i64 (g.X i).2.1) ∧ w.cell? ⟨a, i * 7 + 5, none⟩ = some (.string (g.X i).2.2) :=
  ⟨h.row.c i hi 3 (by omega), h.row.c i hi 4 (by omega), h.row.c i hi 5 (by omega)⟩
theorem Pt.l {w : World} {b a z : Nat} {g : G} (h : Pt w b a z g) {i : Nat} (hi : i < z) : w.cell? ⟨a, i * 7 + 6, none⟩ = some (.int .i64 (link (pl z) g i)) := h.row.c i hi 6 (by omega)

abbrev pp (b : Nat) : Value := .pointer (some ⟨b, 0, none⟩)

set_option maxHeartbeats 1000000 in
theorem size_any {b a z : Nat} {g : G} (w : World) (h : Pt w b a z g) : Calls Try.prog 14 #[pp b] w fun e w' => e = .returned (.int .i64 (z : Nat)) ∧ w' = w := by
  have c1 := h.all
  clear h
  unfold pp
  go_enter Try.func14, Try.ntmps14
  go_wp2
  go_ret; exact ⟨rfl, rfl⟩
set_option maxHeartbeats 1000000 in
theorem size_nil (w : World) : Calls Try.prog 14 #[.pointer none] w fun e w' => e = .returned (.int .i64 0) ∧ w' = w := by
  go_enter Try.func14, Try.ntmps14
  go_wp2
  go_ret; exact ⟨rfl, rfl⟩
set_option maxHeartbeats 1000000 in
theorem free_any {b a z : Nat} {g : G} (w : World) (h : Pt w b a z g) : Calls Try.prog 15 #[pp b] w fun e w' => e = .returned (.int .i64 (g.f : Nat)) ∧ w' = w := by
  have c1 := h.fre
  clear h
  unfold pp
  go_enter Try.func15, Try.ntmps15
  go_wp2
  go_ret; exact ⟨rfl, rfl⟩
set_option maxHeartbeats 1000000 in
theorem free_nil (w : World) : Calls Try.prog 15 #[.pointer none] w fun e w' => e = .returned (.int .i64 0) ∧ w' = w := by
  go_enter Try.func15, Try.ntmps15
  go_wp2
  go_ret; exact ⟨rfl, rfl⟩
set_option maxHeartbeats 1000000 in
theorem holds_any {b a z : Nat} {g : G} (i : Nat) (w : World) (h : Pt w b a z g) (hi : i < z) : Calls Try.prog 40 #[pp b, .int .i64 (i : Nat)] w fun e w' => e = .returned (.bool (decide ((g.K i).1 ≠ 0))) ∧ w' = w := by
  have c1 := h.all
  have c2 := (h.k hi).1
  clear h
  generalize (g.K i).1 = q at *
  unfold pp
  go_enter Try.func40, Try.ntmps40
  go_wp2
  go_ret; exact ⟨ret_bool (by rw [Bool.eq_iff_iff]; simp), rfl⟩
set_option maxHeartbeats 1000000 in
theorem beyond_any {b a z : Nat} {g : G} (m f : Nat) (w : World) (h : Pt w b a z g) (hm : m < z) (hf : f < z) (hz : z ≤ 65536) (hl : -65536 ≤ link (pl z) g m ∧ link (pl z) g m ≤ 65536) :
    Calls Try.prog 43 #[pp b, .int .i64 (m : Nat), .int .i64 (f : Nat)] w fun e w' => e = .returned (.int .i64 (bey (link (pl z) g m) m f)) ∧ w' = w := by
  have c1 := h.all
  have c2 := h.l hm
  clear h
  generalize link (pl z) g m = q at *
  unfold pp
  by_cases e : q = 0
  · subst e
    have eb : bey 0 m f = 0 := rfl
    rw [eb]
    go_enter Try.func43, Try.ntmps43
    go_wp2
    go_ret; exact ⟨rfl, rfl⟩
  · have eb : bey q m f = m + q - f := by rw [bey, if_neg e]
    rw [eb]
    go_enter Try.func43, Try.ntmps43
    go_wp2
    go_ret; exact ⟨ret1 (by first | rfl | omega), rfl⟩
end Go.Proofs.Ytbkgbojfjijalaa
