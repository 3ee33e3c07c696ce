/- The walks of Main and of the reference's Place and Main. -/
import Derived.Test.YtpmmploedkbeoaaGreatDoorCg00
import Derived.MapKept
import Derived.RegionTactic
import Derived.Laws.MakeOwn
import Derived.OwnWalk
import Derived.Deep.QuietTactic
import Derived.BigQuiet
import Derived.Laws.NewBlocks
import Derived.Laws.StructEq
namespace Go.Proofs.YtpmmploedkbeoaaGreatDoor
open Go.RowKit

/-- The main position of a key in form among a right number of nodes. -/
def dm (z : Int) : Int := if z = 1 then 1 else z - 1
def mp (k n : Int) (s : ByteArray) (z : Int) : Int :=
  if k = 1 then n % z else if k = 2 then (n % 18446744073709551616) % dm z else if k = 3 then (fnv s.data.toList : Int) % z
  else ((4 * n + k) % 18446744073709551616) % dm z
def mnP (k n : Int) (s : ByteArray) (z : Int) : Int := if inF k n s = true ∧ pw z = true ∧ k ≠ 0 then mp k n s z else 0
def mnE (k n : Int) (s : ByteArray) (z : Int) : Int := if inF k n s = true then (if pw z = true then (if k = 0 then 9 else 0) else 1) else 2
theorem dm_pos (z : Int) (h : 1 ≤ z) (h' : z ≤ 65536) : 1 ≤ dm z ∧ dm z ≤ 65536 ∧ dm z ≤ z := by unfold dm; split <;> omega
theorem ret2 {a b c d : Int} (h : a = b) (h' : c = d) : Ending.returned (.tuple #[.int .i64 a, .int .i64 c]) = .returned (.tuple #[.int .i64 b, .int .i64 d]) := by rw [h, h']
theorem inF_kind (k n : Int) (s : ByteArray) (h : inF k n s = true) : k = 0 ∨ (k = 1 ∧ (n = 0 ∨ n = 1)) ∨ k = 2 ∨ (k = 3 ∧ s.size ≤ 10000) ∨ ((k = 4 ∨ k = 5 ∨ k = 6) ∧ 1 ≤ n) := by
  unfold inF at h
  repeat' split at h
  all_goals simp_all
  all_goals omega

theorem b2 (w : World) (o p : Obj) : Below w.heap.size w ((w.alloc o).alloc p) := ((Below.refl _ w).alloc (Nat.le_refl _) o).alloc (by simp) p

set_option maxHeartbeats 2000000 in
theorem main_any (k n : Int) (s : ByteArray) (z : Int) (w : World) (hn0 : -9223372036854775808 ≤ n) (hn1 : n ≤ 9223372036854775807) :
    Calls Tryz.prog 144 #[vl k n s, .int .i64 z] w fun e w' => e = .returned (.tuple #[.int .i64 (mnP k n s z), .int .i64 (mnE k n s z)]) ∧ w' = (w.alloc (vb k n s)).alloc (vb k n s) := by
  have C1 := check_any k n s
  have C2 := isSize_any z
  unfold vl vb at *
  cases hF : inF k n s
  · have hc : chk k n s = 2 := by simp [chk, hF]
    have e1 : mnP k n s z = 0 := by simp [mnP, hF]
    have e2 : mnE k n s z = 2 := by simp [mnE, hF]
    rw [hc] at C1
    rw [e1, e2]
    clear e1 e2 hc
    go_enter Tryz.func144, Tryz.ntmps144
    go_wp2_with (go_at_call 67; refine (C1 _).mono ?_; rintro e w' ⟨rfl, rfl⟩)
    go_ret2
    exact ⟨rfl, rfl⟩
  · have hc : chk k n s = 0 := by simp [chk, hF]
    rw [hc] at C1
    clear hc
    cases hP : pw z
    · have e1 : mnP k n s z = 0 := by simp [mnP, hP]
      have e2 : mnE k n s z = 1 := by simp [mnE, hF, hP]
      rw [hP] at C2
      rw [e1, e2]
      clear e1 e2
      go_enter Tryz.func144, Tryz.ntmps144
      go_wp2_with (first | (go_at_call 67; refine (C1 _).mono ?_; rintro e w' ⟨rfl, rfl⟩) | (go_at_call 215; refine (C2 _).mono ?_; rintro e w' ⟨rfl, rfl⟩))
      go_ret2
      exact ⟨rfl, rfl⟩
    · rw [hP] at C2
      obtain ⟨hz0, hz1⟩ := pw_bounds z hP
      obtain ⟨hd0, hd1, hd2⟩ := dm_pos z hz0 hz1
      have HK : Hid _ := inF_kind k n s hF
      have HF : Hid _ := hF
      have HP : Hid _ := hP
      clear hF hP
      rcases HK.out with h | ⟨h, hn⟩ | h | ⟨h, hs⟩ | ⟨h, hn⟩
      · subst h
        have e1 : mnP 0 n s z = 0 := by simp [mnP]
        have e2 : mnE 0 n s z = 9 := by simp [mnE, HF.out, HP.out]
        rw [e1, e2]
        clear e1 e2
        go_enter Tryz.func144, Tryz.ntmps144
        go_wp2_with (first | (go_at_call 67; refine (C1 _).mono ?_; rintro e w' ⟨rfl, rfl⟩) | (go_at_call 215; refine (C2 _).mono ?_; rintro e w' ⟨rfl, rfl⟩))
        go_ret2
        exact ⟨rfl, rfl⟩
      · subst h
        have e1 : mnP 1 n s z = n % z := by simp [mnP, mp, HF.out, HP.out]
        have e2 : mnE 1 n s z = 0 := by simp [mnE, HF.out, HP.out]
        have hq : n.tmod z = n % z := Int.tmod_eq_emod_of_nonneg (by omega)
        rw [e1, e2]
        clear e1 e2
        go_enter Tryz.func144, Tryz.ntmps144
        go_wp2_with (first | (go_at_call 67; refine (C1 _).mono ?_; rintro e w' ⟨rfl, rfl⟩) | (go_at_call 215; refine (C2 _).mono ?_; rintro e w' ⟨rfl, rfl⟩))
        go_ret2
        exact ⟨ret2 (by first | rfl | omega) rfl, rfl⟩
      · subst h
        have e1 : mnP 2 n s z = (n % 18446744073709551616) % dm z := by simp [mnP, mp, HF.out, HP.out]
        have e2 : mnE 2 n s z = 0 := by simp [mnE, HF.out, HP.out]
        have C3 := fun w => spread_any (n % 18446744073709551616) z w (by omega) (by omega) hz0 hz1
        rw [show (if z = 1 then (1 : Int) else z - 1) = dm z from rfl] at C3
        rw [e1, e2]
        clear e1 e2
        go_enter Tryz.func144, Tryz.ntmps144
        go_wp2_with (first | (go_at_call 67; refine (C1 _).mono ?_; rintro e w' ⟨rfl, rfl⟩) | (go_at_call 215; refine (C2 _).mono ?_; rintro e w' ⟨rfl, rfl⟩) | (go_at_call 216; refine (C3 _).mono ?_; rintro e w' ⟨rfl, rfl⟩))
        go_ret2
        exact ⟨rfl, rfl⟩
      · subst h
        have e1 : mnP 3 n s z = (fnv s.data.toList : Int) % z := by simp [mnP, mp, HF.out, HP.out]
        have e2 : mnE 3 n s z = 0 := by simp [mnE, HF.out, HP.out]
        have C3 := fun w => of_any s w (by omega)
        obtain ⟨f, hf⟩ : ∃ f, (fnv s.data.toList) = f := ⟨_, rfl⟩
        rw [hf] at C3 e1
        clear hf
        rw [e1, e2]
        clear e1 e2
        go_enter Tryz.func144, Tryz.ntmps144
        go_wp2_with (first | (go_at_call 67; refine (C1 _).mono ?_; rintro e w' ⟨rfl, rfl⟩) | (go_at_call 215; refine (C2 _).mono ?_; rintro e w' ⟨rfl, rfl⟩) | (go_at_call 217; refine (C3 _).mono ?_; rintro e w' ⟨rfl, rfl⟩))
        go_ret2
        exact ⟨ret2 (by first | rfl | exact Int.tmod_eq_emod_of_nonneg (by omega)) rfl, rfl⟩
      · have e1 : mnP k n s z = ((4 * n + k) % 18446744073709551616) % dm z := by
          rw [mnP, if_pos ⟨HF.out, HP.out, by omega⟩, mp, if_neg (by omega), if_neg (by omega), if_neg (by omega)]
        have e2 : mnE k n s z = 0 := by simp [mnE, HF.out, HP.out]; omega
        have C3 := fun w => spread_any ((4 * n % 18446744073709551616 + k) % 18446744073709551616) z w (by omega) (by omega) hz0 hz1
        rw [show (if z = 1 then (1 : Int) else z - 1) = dm z from rfl] at C3
        rw [e1, e2]
        clear e1 e2
        have hu : n % 18446744073709551616 = n := by omega
        have huk : k % 18446744073709551616 = k := by omega
        rcases h with h | h | h
        all_goals
          subst h
          go_enter Tryz.func144, Tryz.ntmps144
          go_wp2_with (first | (go_at_call 67; refine (C1 _).mono ?_; rintro e w' ⟨rfl, rfl⟩) | (go_at_call 215; refine (C2 _).mono ?_; rintro e w' ⟨rfl, rfl⟩) | (go_at_call 216; refine (C3 _).mono ?_; rintro e w' ⟨rfl, rfl⟩))
          go_ret2
          exact ⟨ret2 (by first | rfl | omega) rfl, rfl⟩

end Go.Proofs.YtpmmploedkbeoaaGreatDoor

/- The walks of the reference's Place and Main. -/
namespace Go.Proofs.YtpmmploedkbeoaaGreatDoor
open Go.RowKit

theorem wtm (x d : Int) (h : 1 ≤ d) (h' : d ≤ 65536) : wrap64 ((IntKind.u64.wrap x).tmod d) = (x % 18446744073709551616) % d := by
  rw [IntKind.wrap_u64]
  have q0 : 0 ≤ x % 18446744073709551616 := by omega
  rw [Int.tmod_eq_emod_of_nonneg q0]
  have q1 := Int.emod_nonneg (x % 18446744073709551616) (show d ≠ 0 by omega)
  have q2 := Int.emod_lt_of_pos (x % 18446744073709551616) (show 0 < d by omega)
  unfold wrap64; omega
theorem wtm2 (n k d : Int) (h : 1 ≤ d) (h' : d ≤ 65536) : wrap64 ((IntKind.u64.wrap (IntKind.u64.wrap (n * 4) + k)).tmod d) = ((4 * n + k) % 18446744073709551616) % d := by
  rw [wtm _ _ h h', IntKind.wrap_u64]
  congr 1; omega

end Go.Proofs.YtpmmploedkbeoaaGreatDoor

/- A hash part of the program's in memory; what a call leaves as it was; the walks of Size, Free, holds, beyond. -/
namespace Go.Proofs.YtpmmploedkbeoaaGreatDoor
open Go.RowKit

/-- Which values may be keys, and where they belong. -/
def KOK (v : V) : Prop := inF v.1 v.2.1 v.2.2 = true ∧ v.1 ≠ 0 ∧ -9223372036854775808 ≤ v.2.1 ∧ v.2.1 ≤ 9223372036854775807
def pl (z : Nat) (v : V) : Nat := (mp v.1 v.2.1 v.2.2 z).toNat
theorem KOK.ne {v : V} (h : KOK v) : v ≠ nil := fun e => h.2.1 (by rw [e]; rfl)
theorem mp_bounds (v : V) {z : Int} (hz : pw z = true) : 0 ≤ mp v.1 v.2.1 v.2.2 z ∧ mp v.1 v.2.1 v.2.2 z < z := by
  obtain ⟨hz0, hz1⟩ := pw_bounds z hz
  obtain ⟨d0, d1, d2⟩ := dm_pos z hz0 hz1
  have m1 := fun x : Int => Int.emod_nonneg x (show z ≠ 0 by omega)
  have m2 := fun x : Int => Int.emod_lt_of_pos x (show 0 < z by omega)
  have m3 := fun x : Int => Int.emod_nonneg x (show dm z ≠ 0 by omega)
  have m4 := fun x : Int => Int.emod_lt_of_pos x (show 0 < dm z by omega)
  unfold mp
  split
  · exact ⟨m1 _, m2 _⟩
  · split
    · exact ⟨m3 _, Int.lt_of_lt_of_le (m4 _) d2⟩
    · split
      · exact ⟨m1 _, m2 _⟩
      · exact ⟨m3 _, Int.lt_of_lt_of_le (m4 _) d2⟩
theorem pl_lt {z : Nat} (hz : pw z = true) (v : V) : pl z v < z := by
  have := mp_bounds v hz
  unfold pl; omega
theorem pl_cast {z : Nat} (hz : pw z = true) (v : V) : ((pl z v : Nat) : Int) = mp v.1 v.2.1 v.2.2 z := by
  have := mp_bounds v hz
  unfold pl; omega

/-- A row of nodes: the seven cells of each. -/
def nc (k x : V) (l : Int) : Nat → Value
  | 0 => .int .i64 k.1
  | 1 => .int .i64 k.2.1
  | 2 => .string k.2.2
  | 3 => .int .i64 x.1
  | 4 => .int .i64 x.2.1
  | 5 => .string x.2.2
  | _ => .int .i64 l
structure Rc (w : World) (a z : Nat) (F : Nat → Nat → Value) : Prop where
  c : ∀ i, i < z → ∀ j, j < 7 → w.cell? ⟨a, i * 7 + j, none⟩ = some (F i j)
theorem Rc.set {w : World} {a z : Nat} {F : Nat → Nat → Value} (h : Rc w a z F) {i0 j0 : Nat} (hi : i0 < z) (hj : j0 < 7) (v : Value) :
    Rc (w.setCell ⟨a, i0 * 7 + j0, none⟩ v) a z (fun i j => if i = i0 ∧ j = j0 then v else F i j) := ⟨fun i hi2 j hj2 => by
  by_cases e : i = i0 ∧ j = j0
  · obtain ⟨rfl, rfl⟩ := e
    rw [if_pos ⟨rfl, rfl⟩]
    exact World.cell?_setCell_same _ _ _ (h.c i hi j hj)
  · rw [if_neg e, World.cell?_setCell_other _ _ _ _ (fun q => by injection q with _ q2; omega)]
    exact h.c i hi2 j hj2⟩
theorem Rc.congr {w : World} {a z : Nat} {F F' : Nat → Nat → Value} (h : Rc w a z F) (he : ∀ i, i < z → ∀ j, j < 7 → F i j = F' i j) : Rc w a z F' := ⟨fun i hi j hj => by rw [h.c i hi j hj, he i hi j hj]⟩
theorem Rc.other {w : World} {a z : Nat} {F : Nat → Nat → Value} (h : Rc w a z F) {p : Addr} (hp : p.block ≠ a) (v : Value) : Rc (w.setCell p v) a z F := ⟨fun i hi j hj => by
  rw [World.cell?_setCell_other _ _ _ _ (fun q => hp (by rw [q]))]; exact h.c i hi j hj⟩
theorem Rc.block {w w' : World} {a z : Nat} {F : Nat → Nat → Value} (h : Rc w a z F) (hb : w'.heap[a]? = w.heap[a]?) : Rc w' a z F := ⟨fun i hi j hj => by
  rw [World.cell?_of_block (w := w) hb]; exact h.c i hi j hj⟩

/-- What a call leaves: all blocks that were there and that No names. -/
structure Keep (No : Nat → Prop) (w w' : World) : Prop where
  os : w'.os = w.os
  tape : w'.tape = w.tape
  output : w'.output = w.output
  size : w.heap.size ≤ w'.heap.size
  block : ∀ g, g < w.heap.size → No g → w'.heap[g]? = w.heap[g]?
theorem Keep.refl (No : Nat → Prop) (w : World) : Keep No w w := ⟨rfl, rfl, rfl, Nat.le_refl _, fun _ _ _ => rfl⟩
theorem Keep.trans {No : Nat → Prop} {w w1 w2 : World} (h : Keep No w w1) (k : Keep No w1 w2) : Keep No w w2 :=
  ⟨k.os.trans h.os, k.tape.trans h.tape, k.output.trans h.output, Nat.le_trans h.size k.size, fun g hg hn => (k.block g (Nat.lt_of_lt_of_le hg h.size) hn).trans (h.block g hg hn)⟩
theorem Keep.drew {No : Nat → Prop} {w w' : World} (h : Keep No w w') : Keep No w w'.drew := ⟨h.os, h.tape, h.output, h.size, h.block⟩
theorem Keep.alloc {No : Nat → Prop} {w w1 : World} (h : Keep No w w1) (o : Obj) : Keep No w (w1.alloc o) :=
  h.trans ⟨rfl, rfl, rfl, by simp, fun g hg _ => Below.heap_alloc _ _ _ hg⟩
theorem Keep.set {No : Nat → Prop} {w w1 : World} (h : Keep No w w1) {p : Addr} (hp : ¬ No p.block) (v : Value) : Keep No w (w1.setCell p v) :=
  h.trans ⟨rfl, rfl, rfl, by simp [World.setCell], fun g _ hn => Below.heap_setCell _ _ _ _ (fun e => hp (e ▸ hn))⟩
theorem Keep.bel {No : Nat → Prop} {w w1 w2 : World} (h : Keep No w w1) (k : Below w1.heap.size w1 w2) : Keep No w w2 :=
  h.trans ⟨k.os, k.tape, k.output, k.size, fun g hg _ => k.block g hg⟩
theorem Keep.of {No : Nat → Prop} {w w1 : World} (k : Below w.heap.size w w1) : Keep No w w1 := ⟨k.os, k.tape, k.output, k.size, fun g hg _ => k.block g hg⟩
theorem Keep.sub {No No' : Nat → Prop} {w w' : World} (h : Keep No w w') (hn : ∀ g, No' g → No g) : Keep No' w w' := ⟨h.os, h.tape, h.output, h.size, fun g hg q => h.block g hg (hn g q)⟩
theorem Keep.below {N : Nat} {No : Nat → Prop} {w w' : World} (h : Keep No w w') (hN : N ≤ w.heap.size) (hn : ∀ g, g < N → No g) : Below N w w' :=
  ⟨h.os, h.tape, h.output, h.size, fun g hg => h.block g (by omega) (hn g hg)⟩

/-- The program's part: the struct in block b, its nodes in block a. -/
def nf (pl : V → Nat) (g : G) (i j : Nat) : Value := nc (g.K i) (g.X i) (link pl g i) j
structure Pt (w : World) (b a z : Nat) (g : G) : Prop where
  all : w.cell? ⟨b, 0, none⟩ = some (.slice (some ⟨a, 0, none⟩) z z)
  fre : w.cell? ⟨b, 1, none⟩ = some (.int .i64 (g.f : Nat))
  row : Rc w a z (nf (pl z) g)
  fb : ∀ j, w.frozen? ⟨b, j, none⟩ = false
  fa : ∀ j, w.frozen? ⟨a, j, none⟩ = false
  ne : b ≠ a
  ltb : b < w.heap.size
  lta : a < w.heap.size
theorem Pt.kept {No : Nat → Prop} {w w' : World} {b a z : Nat} {g : G} (h : Pt w b a z g) (k : Keep No w w') (hb : No b) (ha : No a) : Pt w' b a z g :=
  ⟨by rw [World.cell?_of_block (w := w) (k.block b h.ltb hb)]; exact h.all, by rw [World.cell?_of_block (w := w) (k.block b h.ltb hb)]; exact h.fre, h.row.block (k.block a h.lta ha),
   fun j => by rw [World.frozen?_of_block (w := w) (k.block b h.ltb hb)]; exact h.fb j, fun j => by rw [World.frozen?_of_block (w := w) (k.block a h.lta ha)]; exact h.fa j, h.ne, Nat.lt_of_lt_of_le h.ltb k.size, Nat.lt_of_lt_of_le h.lta k.size⟩
theorem Pt.below {w w' : World} {b a z : Nat} {g : G} (h : Pt w b a z g) (k : Below w.heap.size w w') : Pt w' b a z g := h.kept (No := fun _ => True) (Keep.of k) trivial trivial
theorem Pt.k {w : World} {b a z : Nat} {g : G} (h : Pt w b a z g) {i : Nat} (hi : i < z) : w.cell? ⟨a, i * 7, none⟩ = some (.int .i64 (g.K i).1) ∧ w.cell? ⟨a, i * 7 + 1, none⟩ = some (.int .i64 (g.K i).2.1) ∧ w.cell? ⟨a, i * 7 + 2, none⟩ = some (.string (g.K i).2.2) :=
  ⟨h.row.c i hi 0 (by omega), h.row.c i hi 1 (by omega), h.row.c i hi 2 (by omega)⟩
theorem Pt.x {w : World} {b a z : Nat} {g : G} (h : Pt w b a z g) {i : Nat} (hi : i < z) : w.cell? ⟨a, i * 7 + 3, none⟩ = some (.int .i64 (g.X i).1) ∧ w.cell? ⟨a, i * 7 + 4, none⟩ = some (.int .i64 (g.X i).2.1) ∧ w.cell? ⟨a, i * 7 + 5, none⟩ = some (.string (g.X i).2.2) :=
  ⟨h.row.c i hi 3 (by omega), h.row.c i hi 4 (by omega), h.row.c i hi 5 (by omega)⟩
theorem Pt.l {w : World} {b a z : Nat} {g : G} (h : Pt w b a z g) {i : Nat} (hi : i < z) : w.cell? ⟨a, i * 7 + 6, none⟩ = some (.int .i64 (link (pl z) g i)) := h.row.c i hi 6 (by omega)

abbrev pp (b : Nat) : Value := .pointer (some ⟨b, 0, none⟩)

set_option maxHeartbeats 1000000 in
theorem size_any {b a z : Nat} {g : G} (w : World) (h : Pt w b a z g) : Calls Tryz.prog 111 #[pp b] w fun e w' => e = .returned (.int .i64 (z : Nat)) ∧ w' = w := by
  have c1 := h.all
  clear h
  unfold pp
  go_enter Tryz.func111, Tryz.ntmps111
  go_wp2
  go_ret; exact ⟨rfl, rfl⟩
set_option maxHeartbeats 1000000 in
theorem size_nil (w : World) : Calls Tryz.prog 111 #[.pointer none] w fun e w' => e = .returned (.int .i64 0) ∧ w' = w := by
  go_enter Tryz.func111, Tryz.ntmps111
  go_wp2
  go_ret; exact ⟨rfl, rfl⟩
set_option maxHeartbeats 1000000 in
theorem free_any {b a z : Nat} {g : G} (w : World) (h : Pt w b a z g) : Calls Tryz.prog 112 #[pp b] w fun e w' => e = .returned (.int .i64 (g.f : Nat)) ∧ w' = w := by
  have c1 := h.fre
  clear h
  unfold pp
  go_enter Tryz.func112, Tryz.ntmps112
  go_wp2
  go_ret; exact ⟨rfl, rfl⟩
set_option maxHeartbeats 1000000 in
theorem free_nil (w : World) : Calls Tryz.prog 112 #[.pointer none] w fun e w' => e = .returned (.int .i64 0) ∧ w' = w := by
  go_enter Tryz.func112, Tryz.ntmps112
  go_wp2
  go_ret; exact ⟨rfl, rfl⟩
set_option maxHeartbeats 1000000 in
theorem holds_any {b a z : Nat} {g : G} (i : Nat) (w : World) (h : Pt w b a z g) (hi : i < z) : Calls Tryz.prog 218 #[pp b, .int .i64 (i : Nat)] w fun e w' => e = .returned (.bool (decide ((g.K i).1 ≠ 0))) ∧ w' = w := by
  have c1 := h.all
  have c2 := (h.k hi).1
  clear h
  generalize (g.K i).1 = q at *
  unfold pp
  go_enter Tryz.func218, Tryz.ntmps218
  go_wp2
  go_ret; exact ⟨ret_bool (by rw [Bool.eq_iff_iff]; simp), rfl⟩
set_option maxHeartbeats 1000000 in
theorem beyond_any {b a z : Nat} {g : G} (m f : Nat) (w : World) (h : Pt w b a z g) (hm : m < z) (hf : f < z) (hz : z ≤ 65536) (hl : -65536 ≤ link (pl z) g m ∧ link (pl z) g m ≤ 65536) :
    Calls Tryz.prog 221 #[pp b, .int .i64 (m : Nat), .int .i64 (f : Nat)] w fun e w' => e = .returned (.int .i64 (bey (link (pl z) g m) m f)) ∧ w' = w := by
  have c1 := h.all
  have c2 := h.l hm
  clear h
  generalize link (pl z) g m = q at *
  unfold pp
  by_cases e : q = 0
  · subst e
    have eb : bey 0 m f = 0 := rfl
    rw [eb]
    go_enter Tryz.func221, Tryz.ntmps221
    go_wp2
    go_ret; exact ⟨rfl, rfl⟩
  · have eb : bey q m f = m + q - f := by rw [bey, if_neg e]
    rw [eb]
    go_enter Tryz.func221, Tryz.ntmps221
    go_wp2
    go_ret; exact ⟨ret1 (by first | rfl | omega), rfl⟩
end Go.Proofs.YtpmmploedkbeoaaGreatDoor

/- The walks of takeFree and Find. -/
namespace Go.Proofs.YtpmmploedkbeoaaGreatDoor
open Go.RowKit

/-- A region that draws its order, whose operations read what lies below, and whose callees make new memory alone: one walk, in the order of the text, over the class of the worlds that agree below. -/
theorem wp_class {P : Program} {X : Type} {F : X → World} {id : Nat} {Q : Exit → Act → World → Prop} {a : Act} {w : World} {l : List Oper} (hm : P.follows .mixedOrders = true) (hB : Region.lexB .any l.toArray = true) (hC : ∃ x, w.drew = F x)
    (h : wpQuiet P l.toArray (fun w' => ∃ x, w' = F x) (fun a' => ∀ w', (∃ x, w' = F x) → Q .normal a' w') l a) : (Code.region id l.toArray true).wp P Q a w :=
  wp_region_quiet (C := fun w' => ∃ x, w' = F x) hm hB hC (by simpa using h)
theorem class_of (W : World) : ∃ (X : Type) (F : X → World), (∀ x, Below W.heap.size W (F x)) ∧ (∀ w', Below W.heap.size W w' → ∃ x, w' = F x) :=
  ⟨{ w' // Below W.heap.size W w' }, Subtype.val, fun x => x.2, fun w' h => ⟨⟨w', h⟩, rfl⟩⟩
theorem bthen {N : Nat} {w w1 w2 : World} (h : Below N w w1) (hN : N ≤ w1.heap.size) (h2 : Below w1.heap.size w1 w2) : Below N w w2 := h.trans (h2.mono hN)
theorem b1 (w : World) (o : Obj) : Below w.heap.size w (w.alloc o) := (Below.refl _ w).alloc (Nat.le_refl _) o
theorem nodup_len {l : List Nat} {z : Nat} (h : l.Nodup) (hl : ∀ x, x ∈ l → x < z) : l.length ≤ z := by
  induction z generalizing l with
  | zero => cases l with
    | nil => exact Nat.le_refl _
    | cons a l => have := hl a (by simp); omega
  | succ z ih =>
    have h2 := ih (l := l.erase z) (h.erase z) (fun x hx => by
      have h3 := (List.Nodup.mem_erase_iff h).1 hx
      have := hl x h3.2
      have := h3.1
      omega)
    by_cases hz : z ∈ l
    · rw [List.length_erase_of_mem hz] at h2; omega
    · rw [List.erase_of_not_mem hz] at h2; omega
theorem Inv.lk_len {z : Nat} {pl : V → Nat} {ok : V → Prop} {g : G} (h : Inv z pl ok g) {l : List Nat} (hl : Lk z pl g l) : l.length ≤ z := by
  rcases hl with ⟨m, p, hm, hc⟩ | ⟨m, hm, e, rfl⟩
  · have hn := h.nd m hm
    have := nodup_len hn (fun x hx => (h.cok m hm x hx).1)
    rw [hc] at this; simp at this; omega
  · simp; omega
def fi : Option Nat → Int
  | none => -1
  | some i => i

theorem Pt.setF {w : World} {b a z : Nat} {g : G} (h : Pt w b a z g) (f : Nat) : Pt (w.setCell ⟨b, 1, none⟩ (.int .i64 (f : Nat))) b a z { g with f := f } :=
  ⟨by rw [World.cell?_setCell_other _ _ _ _ (fun q => by injection q with _ q2; omega)]; exact h.all, World.cell?_setCell_same _ _ _ h.fre, h.row.other (fun e => h.ne e) _,
   fun j => by simpa using h.fb j, fun j => by simpa using h.fa j, h.ne, by simpa [World.setCell] using h.ltb, by simpa [World.setCell] using h.lta⟩
def frOf (w : World) (b : Nat) : Nat := match w.cell? ⟨b, 1, none⟩ with | some (.int _ q) => q.toNat | _ => 0
theorem Pt.fr {w : World} {b a z : Nat} {g : G} (h : Pt w b a z g) : frOf w b = g.f := by unfold frOf; rw [h.fre]; simp

set_option maxHeartbeats 1000000 in
theorem takeFree_any {b a z : Nat} {g : G} (w : World) (h : Pt w b a z g) (hf : g.f ≤ z) (hz : z ≤ 65536) (hk : ∀ i, i < z → ((g.K i).1 = 0 ↔ g.K i = nil)) :
    Calls Tryz.prog 219 #[pp b] w fun e w' => e = .returned (.int .i64 (fi (tf g.K g.f))) ∧ Pt w' b a z { g with f := (tf g.K g.f).getD 0 } ∧ Keep (fun x => x ≠ b) w w' := by
  unfold pp
  have HP : Hid _ := h
  have HK : Hid _ := hk
  clear h hk
  go_enter Tryz.func219, Tryz.ntmps219
  go_wp2
  go_loopw [] (fun wr => ∃ f : Nat, f ≤ z ∧ Hid (Pt wr b a z { g with f := f }) ∧ Hid (tf g.K f = tf g.K g.f) ∧ Hid (Keep (fun x => x ≠ b) w wr)) (fun wr => frOf wr b)
  case atStart => exact ⟨g.f, hf, HP.out, rfl, Keep.refl _ _⟩
  case round =>
    obtain ⟨f, hfz, P, T, Kp⟩ := hrel
    have c1 := P.out.fre
    have f1 := P.out.fb 1
    simp only at c1
    cases f with
    | zero =>
      have T2 : Hid (tf g.K g.f = none) := T.out.symm
      go_wp2
      go_ret
      rw [T2.out]
      exact ⟨rfl, P.out, Kp.out⟩
    | succ f =>
      have P2 : Hid _ := P.out.setF f
      have C := fun w => holds_any f w (b := b) (a := a) (z := z) (g := { g with f := f })
      have hlt : f < z := by omega
      have C2 := C _ P2.out hlt
      unfold pp at C2
      have hm := P.out.fr
      have hm2 := P2.out.fr
      have T1 : Hid _ := T.out
      rw [tf] at T1
      clear C T
      have hc : ((f + 1 : Nat) : Int) - 1 = (f : Int) := by omega
      by_cases e : g.K f = nil
      · have e0 : decide ((g.K f).1 ≠ 0) = false := by rw [e]; rfl
        have T2 : Hid (tf g.K g.f = some f) := by rw [if_pos e] at T1; exact T1.out.symm
        simp only [e0] at C2
        clear T1 e0
        go_wp2_with (go_at_call 218; refine C2.mono ?_; rintro e w' ⟨rfl, rfl⟩)
        go_ret
        rw [T2.out]
        exact ⟨ret1 (by first | rfl | (simp [fi]; done)), P2.out, Kp.out.set (by simp) _⟩
      · have e0 : decide ((g.K f).1 ≠ 0) = true := by
          simp only [decide_eq_true_eq]
          exact fun q => e ((HK.out f hlt).1 q)
        have T2 : Hid (tf g.K f = tf g.K g.f) := by rw [if_neg e] at T1; exact T1.out
        simp only [e0] at C2
        clear T1 e0
        go_wp2_with (go_at_call 218; refine C2.mono ?_; rintro e w' ⟨rfl, rfl⟩)
        go_round
        case rel => exact ⟨f, by omega, P2, T2, Kp.out.set (by simp) _⟩
        case measure => rw [hm, hm2]; simp
end Go.Proofs.YtpmmploedkbeoaaGreatDoor

/- How two structs are compared. -/
namespace Go.Proofs.YtpmmploedkbeoaaGreatDoor
open Go.RowKit
theorem under32 : Tryz.prog.underlying 37 = some (.struct (Tryz.prog.fieldsOf 37)) := by kernel_rfl
theorem stood32 : Tryz.prog.stoodInHeld 37 = false := by kernel_rfl
theorem guard32 : Tryz.prog.eqGuardType Tryz.prog.depth 37 = false := by kernel_rfl
theorem under54 : Tryz.prog.underlying 203 = some (.struct (Tryz.prog.fieldsOf 203)) := by kernel_rfl
theorem stood54 : Tryz.prog.stoodInHeld 203 = false := by kernel_rfl
theorem guard54 : Tryz.prog.eqGuardType Tryz.prog.depth 203 = false := by kernel_rfl
theorem bytes_iff {s s' : ByteArray} : s.toList = s'.toList ↔ s = s' := by
  rw [ByteArray.toList_eq, ByteArray.toList_eq]
  constructor
  · intro h
    obtain ⟨⟨x⟩⟩ := s
    obtain ⟨⟨y⟩⟩ := s'
    simp at h
    rw [h]
  · intro h; rw [h]
theorem eql32 (k n k' n' : Int) (s s' : ByteArray) (W : World) : (binOp .eql 37 (vl k n s) (vl k' n' s')).run Tryz.prog W = .ok (.bool (decide ((k, n, s) = (k', n', s')))) W := by
  unfold vl
  rw [run_eql_struct, run_equalIn_agg W _ _ _ _ under32 stood32]
  simp [go_sem, bytes_iff]
  by_cases h1 : k = k' <;> by_cases h2 : n = n' <;> by_cases h3 : s = s' <;> simp [h1, h2, h3]
theorem neq32 (k n k' n' : Int) (s s' : ByteArray) (W : World) : (binOp .neq 37 (vl k n s) (vl k' n' s')).run Tryz.prog W = .ok (.bool (!decide ((k, n, s) = (k', n', s')))) W := by
  unfold vl
  rw [run_neq_struct, run_equalIn_agg W _ _ _ _ under32 stood32]
  simp [go_sem, bytes_iff]
  by_cases h1 : k = k' <;> by_cases h2 : n = n' <;> by_cases h3 : s = s' <;> simp [h1, h2, h3]
abbrev vn (k x : V) (l : Int) : Value := .agg #[.int .i64 k.1, .int .i64 k.2.1, .string k.2.2, .int .i64 x.1, .int .i64 x.2.1, .string x.2.2, .int .i64 l]
theorem neq54 (k x k' x' : V) (l l' : Int) (W : World) : (binOp .neq 203 (vn k x l) (vn k' x' l')).run Tryz.prog W = .ok (.bool (!decide (k = k' ∧ x = x' ∧ l = l'))) W := by
  unfold vn
  obtain ⟨k0, k1, k2⟩ := k
  obtain ⟨x0, x1, x2⟩ := x
  obtain ⟨y0, y1, y2⟩ := k'
  obtain ⟨z0, z1, z2⟩ := x'
  rw [run_neq_struct, run_equalIn_agg W _ _ _ _ under54 stood54]
  simp [go_sem, bytes_iff]
  split <;> rename_i h <;> simp [h]
  split <;> rename_i h <;> simp [h]
  split <;> rename_i h <;> simp [h]
  split <;> rename_i h <;> simp [h]
  split <;> rename_i h <;> simp [h]
  split <;> rename_i h <;> simp [h]
  split <;> rename_i h <;> simp [h]
theorem field0 (k x : V) (l : Int) (W : World) : (Instr.field 203 (vn k x l) 0).run Tryz.prog W = .ok (vl k.1 k.2.1 k.2.2) W := by kernel_rfl
theorem field1 (k x : V) (l : Int) (W : World) : (Instr.field 203 (vn k x l) 1).run Tryz.prog W = .ok (vl x.1 x.2.1 x.2.2) W := by kernel_rfl
theorem field2 (k x : V) (l : Int) (W : World) : (Instr.field 203 (vn k x l) 2).run Tryz.prog W = .ok (.int .i64 l) W := by kernel_rfl
end Go.Proofs.YtpmmploedkbeoaaGreatDoor
