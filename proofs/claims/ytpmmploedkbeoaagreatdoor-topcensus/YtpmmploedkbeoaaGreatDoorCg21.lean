/- The walks of Pair and Hint. -/
import Derived.Test.YtpmmploedkbeoaaGreatDoorCg20
import Derived.Test.YtpmmploedkbeoaaGreatDoorCg17
import Derived.Test.YtpmmploedkbeoaaGreatDoorCg14
import Derived.RangeFuncNested
import Derived.RangeFuncBound
import Derived.RangeFuncCalls
import Derived.RangeFuncLeaves
import Derived.RangeFuncFrom
import Derived.Shelf.Abstract
import Derived.Shelf.RegionOpen
import Derived.WalkKit
import Derived.OwnWalkIn
import Derived.TacticsInMore
import Derived.LoopNIn
import Derived.LoopIn
import Derived.Test.YtpmmploedkbeoaaGreatDoorCg16
import Derived.RangeFuncBox
import Derived.Maps.AppendAt
namespace Go.Proofs.YtpmmploedkbeoaaGreatDoor
open Go.RowKit

/-- What Pair answers. -/
def prO (p : Pa) (i : Int) : V × V :=
  if i < 1 then (nil, nil) else if i ≤ (p.n : Int) then (kn i, p.F (i.toNat - 1))
  else if i - p.n - 1 < (p.z : Int) then (p.g.K (i.toNat - p.n - 1), p.g.X (i.toNat - p.n - 1)) else (nil, nil)
theorem pair_at {w : World} {T A b a S : Nat} {t : TS} (h : Tm w T A b a S t) (hn : t.p.n ≤ 65536) (hz : t.p.z ≤ 65536) (i : Int) (h0 : 1 ≤ i) (h1 : i ≤ ((t.p.n + t.p.z : Nat) : Int)) :
    Calls Tryz.prog 110 #[tp T, .int .i64 i] w fun e w' => e = .returned (.tuple #[vv (prO t.p i).1, vv (prO t.p i).2]) ∧ Below w.heap.size w w' := by
  by_cases q : i ≤ (t.p.n : Int)
  · obtain ⟨j, rfl⟩ : ∃ j : Nat, i = (j : Int) + 1 := ⟨(i - 1).toNat, by omega⟩
    have e : prO t.p ((j : Int) + 1) = (kn ((j : Int) + 1), t.p.F j) := by
      unfold prO
      rw [if_neg (by omega), if_pos q]
      have : ((j : Int) + 1).toNat - 1 = j := by omega
      rw [this]
    rw [e]
    exact pair_in h hn j (by omega)
  · obtain ⟨j, hj, rfl⟩ : ∃ j : Nat, j < t.p.z ∧ i = (t.p.n : Int) + 1 + j := ⟨(i - t.p.n - 1).toNat, by omega, by omega⟩
    have e : prO t.p ((t.p.n : Int) + 1 + j) = (t.p.g.K j, t.p.g.X j) := by
      unfold prO
      rw [if_neg (by omega), if_neg q, if_pos (by omega)]
      have : ((t.p.n : Int) + 1 + j).toNat - t.p.n - 1 = j := by omega
      rw [this]
    rw [e]
    exact pair_out h hn hz j hj
end Go.Proofs.YtpmmploedkbeoaaGreatDoor

/- The pure part of the walk: places, the next pair, the list of all pairs. -/
namespace Go.Proofs.YtpmmploedkbeoaaGreatDoor
open Go.RowKit

/-- The first pair from a place on, and all of them. -/
def nxF (p : Pa) : Nat → Nat → V × V
  | 0, _ => (nil, nil)
  | f + 1, i => if (prO p i).2.1 ≠ 0 then prO p i else nxF p f (i + 1)
def lsF (p : Pa) : Nat → Nat → List (V × V)
  | 0, _ => []
  | f + 1, i => if (prO p i).2.1 ≠ 0 then prO p i :: lsF p f (i + 1) else lsF p f (i + 1)
def pnx (p : Pa) (i : Nat) : V × V := nxF p (p.n + p.z - i) (i + 1)
def wl (p : Pa) : List (V × V) := lsF p (p.n + p.z) 1
/-- What Next answers. -/
def wnx (p : Pa) (k : V) : V × V × Int :=
  if fm k = false then (nil, nil, 2) else if k.1 = 0 then ((pnx p 0).1, (pnx p 0).2, 0)
  else if plc p k = 0 then (nil, nil, 9) else ((pnx p (plc p k).toNat).1, (pnx p (plc p k).toNat).2, 0)
theorem lsF_nil {p : Pa} : ∀ {f i : Nat}, lsF p f i = [] → nxF p f i = (nil, nil)
  | 0, _, _ => rfl
  | f + 1, i, h => by
    rw [lsF] at h
    rw [nxF]
    split at h
    · cases h
    · rename_i q; rw [if_neg q]; exact lsF_nil h
theorem lsF_cons {p : Pa} : ∀ {f i : Nat} {x : V × V} {l : List (V × V)}, lsF p f i = x :: l → nxF p f i = x ∧ ∃ j, i ≤ j ∧ j < i + f ∧ x = prO p j ∧ (prO p j).2.1 ≠ 0 ∧ l = lsF p (i + f - (j + 1)) (j + 1)
  | 0, _, _, _, h => by cases h
  | f + 1, i, x, l, h => by
    rw [lsF] at h
    rw [nxF]
    split at h
    · rename_i q
      rw [if_pos q]
      injection h with h1 h2
      refine ⟨h1, i, Nat.le_refl _, by omega, h1.symm, q, ?_⟩
      rw [← h2]; congr 1; omega
    · rename_i q
      rw [if_neg q]
      obtain ⟨a, j, h1, h2, h3, h4, h5⟩ := lsF_cons h
      refine ⟨a, j, by omega, by omega, h3, h4, ?_⟩
      rw [h5]; congr 1; omega
/-- The places of what is listed. -/
def Rise (p : Pa) : Nat → List (V × V) → Prop
  | _, [] => True
  | i, x :: l => ∃ j, i < j ∧ j ≤ p.n + p.z ∧ x = prO p j ∧ (prO p j).2.1 ≠ 0 ∧ pnx p i = x ∧ Rise p j l
theorem lsF_rise {p : Pa} : ∀ (l : List (V × V)) (i : Nat), i ≤ p.n + p.z → lsF p (p.n + p.z - i) (i + 1) = l → Rise p i l
  | [], _, _, _ => trivial
  | x :: l, i, hi, h => by
    obtain ⟨a, j, h1, h2, h3, h4, h5⟩ := lsF_cons h
    refine ⟨j, by omega, by omega, h3, h4, a, lsF_rise l j (by omega) ?_⟩
    rw [h5]; congr 1; omega
theorem wl_rise (p : Pa) : Rise p 0 (wl p) := lsF_rise _ 0 (by omega) rfl
theorem lsF_mem {p : Pa} {x : V × V} : ∀ {f i : Nat}, x ∈ lsF p f i ↔ ∃ j, i ≤ j ∧ j < i + f ∧ (prO p j).2.1 ≠ 0 ∧ x = prO p j
  | 0, i => by simp [lsF]; intro j h1 h2; omega
  | f + 1, i => by
    rw [lsF]
    have ih := lsF_mem (p := p) (x := x) (f := f) (i := i + 1)
    split
    · rename_i q
      rw [List.mem_cons, ih]
      constructor
      · rintro (h | ⟨j, h1, h2, h3, h4⟩)
        · exact ⟨i, by omega, by omega, q, h⟩
        · exact ⟨j, by omega, by omega, h3, h4⟩
      · rintro ⟨j, h1, h2, h3, h4⟩
        by_cases e : j = i
        · subst e; exact .inl h4
        · exact .inr ⟨j, by omega, by omega, h3, h4⟩
    · rename_i q
      rw [ih]
      constructor
      · rintro ⟨j, h1, h2, h3, h4⟩; exact ⟨j, by omega, by omega, h3, h4⟩
      · rintro ⟨j, h1, h2, h3, h4⟩
        by_cases e : j = i
        · subst e; exact absurd h3 q
        · exact ⟨j, by omega, by omega, h3, h4⟩
theorem lsF_len (p : Pa) : ∀ f i, (lsF p f i).length ≤ f
  | 0, _ => by simp [lsF]
  | f + 1, i => by
    have := lsF_len p f (i + 1)
    rw [lsF]; split <;> simp <;> omega
theorem prO_A {p : Pa} {i : Nat} (h0 : 1 ≤ i) (h1 : i ≤ p.n) : prO p i = (kn i, p.F (i - 1)) := by
  unfold prO; rw [if_neg (by omega), if_pos (by omega)]; simp
theorem prO_H {p : Pa} {i : Nat} (h1 : i < p.z) : prO p ((p.n + 1 + i : Nat) : Int) = (p.g.K i, p.g.X i) := by
  unfold prO
  rw [if_neg (by omega), if_neg (by omega), if_pos (by omega)]
  have : ((p.n + 1 + i : Nat) : Int).toNat - p.n - 1 = i := by omega
  rw [this]
theorem plc_node {p : Pa} (h : TI p) {i : Nat} (hi : i < p.z) (hn : p.g.K i ≠ nil) : plc p (p.g.K i) = ((p.n + 1 + i : Nat) : Int) := by
  have hk := (h.inv.key i hi).resolve_left hn
  have hz0 : p.z ≠ 0 := by omega
  obtain ⟨_, _, _, _, hf⟩ := h.inv.find_held (fun k _ => pl_lt (h.rt.resolve_left hz0) k) hi hn
  unfold plc
  rw [if_neg (h.out i hi), fnd_good hz0 hk, hf]
  simp
/-- A pair that is there has its key's place. -/
theorem plc_prO {p : Pa} (h : TI p) {i : Nat} (h0 : 1 ≤ i) (h1 : i ≤ p.n + p.z) (hv : (prO p i).2.1 ≠ 0) : plc p (prO p i).1 = i ∧ fm (prO p i).1 = true ∧ (prO p i).1.1 ≠ 0 ∧ pget p (prO p i).1 = (prO p i).2 ∧ Rng (prO p i).1 := by
  by_cases q : i ≤ p.n
  · rw [prO_A h0 q] at hv ⊢
    obtain ⟨j, rfl⟩ : ∃ j, i = j + 1 := ⟨i - 1, by omega⟩
    have e : ((j + 1 : Nat) : Int) = (j : Int) + 1 := by omega
    rw [e]
    have hA : inA p.n (kn ((j : Int) + 1)) := inA_kn.2 (by omega)
    refine ⟨by unfold plc; rw [if_pos hA], fm_kn _, by simp, ?_, by have := h.le; constructor <;> simp <;> omega⟩
    simpa using h.get_slot (i := j) (by omega)
  · obtain ⟨j, hj, rfl⟩ : ∃ j, j < p.z ∧ i = p.n + 1 + j := ⟨i - p.n - 1, by omega, by omega⟩
    rw [prO_H hj] at hv ⊢
    obtain ⟨hn, hk⟩ := h.live hj hv
    exact ⟨plc_node h hj hn, hk.1, hk.2.1, h.get_node hj hn, ⟨hk.2.2.1, hk.2.2.2⟩⟩
theorem lsF_snoc (p : Pa) : ∀ (k i : Nat), lsF p (k + 1) i = lsF p k i ++ (if (prO p ((i + k : Nat) : Int)).2.1 ≠ 0 then [prO p ((i + k : Nat) : Int)] else [])
  | 0, i => by
    rw [lsF, lsF]
    by_cases q : (prO p ((i : Nat) : Int)).2.1 ≠ 0
    · rw [if_pos q, show i + 0 = i from rfl, if_pos q]; rfl
    · rw [if_neg q, show i + 0 = i from rfl, if_neg q]; rfl
  | k + 1, i => by
    have ih := lsF_snoc p k (i + 1)
    rw [show i + 1 + k = i + (k + 1) by omega] at ih
    rw [lsF, ih]
    conv => rhs; rw [lsF]
    split <;> simp
theorem lsF_pre (p : Pa) (k i : Nat) : ∀ {m : Nat}, k ≤ m → lsF p k i <+: lsF p m i := fun {m} h => by
  induction m with
  | zero => obtain rfl : k = 0 := by omega
            exact List.prefix_refl _
  | succ m ih =>
    by_cases e : k = m + 1
    · rw [e]; exact List.prefix_refl _
    · rw [lsF_snoc]
      exact (ih (by omega)).trans (List.prefix_append _ _)
end Go.Proofs.YtpmmploedkbeoaaGreatDoor

/- How many places. -/
namespace Go.Proofs.YtpmmploedkbeoaaGreatDoor
open Go.RowKit

set_option maxRecDepth 20000 in
set_option maxHeartbeats 2000000 in
theorem places_any {w : World} {T A b a S : Nat} {t : TS} (h : Tm w T A b a S t) (hn : t.p.n ≤ 65536) (hz : t.p.z ≤ 65536) : Calls Tryz.prog 109 #[tp T] w fun e w' => e = .returned (.int .i64 ((t.p.n + t.p.z : Nat) : Int)) ∧ Below w.heap.size w w' := by
  have c1 : w.cell? ⟨T, 1, none⟩ = some (.slice (some ⟨A, 0, none⟩) t.p.n t.p.n) := h.pm.c0
  have c2 : w.cell? ⟨T, 2, none⟩ = some (.pointer (some ⟨b, 0, none⟩)) := h.pm.c1
  have CS : ∀ m, Calls Tryz.prog 111 #[pp b] (w.drewN m) fun e w' => e = .returned (.int .i64 (t.p.z : Nat)) ∧ w' = w.drewN m := fun m => size_any _ (h.pm.pt.below (bdrew _ _ m))
  have hw : IntKind.i64.wrap ((t.p.n : Int) + (t.p.z : Int)) = ((t.p.n + t.p.z : Nat) : Int) := by rw [IntKind.wrap_i64]; omega
  clear h
  unfold pp at CS
  go_enter Tryz.func109, Tryz.ntmps109
  unfold tp
  go_wp2_with fail
  go_quiet (exact Calls.quiet_of_same (CS _))
  go_wp2_with fail
  go_ret
  exact ⟨rfl, bdrew _ _ _⟩
end Go.Proofs.YtpmmploedkbeoaaGreatDoor

/- The walks of behind and of the iterator that it answers: it tells the pairs behind a place. -/
namespace Go.Proofs.YtpmmploedkbeoaaGreatDoor
open Go.RowKit Go.Shelf
attribute [local go_sem] Oper.semAt_some

theorem behind_any (q : Option Addr) (pl : Int) (w : World) : Calls Tryz.prog 71 #[.pointer q, .int .i64 pl] w fun e w' => e = .returned (.func (.func 108) #[] #[.pointer (some ⟨w.heap.size, 0, none⟩), .pointer (some ⟨w.heap.size + 1, 0, none⟩)]) ∧ w' = (w.alloc (.cells #[.pointer q] 90)).alloc (.cells #[.int .i64 pl] 3) := by
  go_enter Tryz.func71, Tryz.ntmps71
  go_wp2
  go_ret
  exact ⟨by simp, rfl⟩
/-- A pair as the iterator hands it on. -/
def encP (x : V × V) : Array Value := #[.agg #[.int .i64 x.1.1, .int .i64 x.1.2.1, .string x.1.2.2], .agg #[.int .i64 x.2.1, .int .i64 x.2.2.1, .string x.2.2.2]]
theorem grown_of_below {w w' : World} (h : Below w.heap.size w w') : w.grownBy w' none := ⟨h.os, h.tape, h.output, h.size, fun k hk _ => h.block k hk⟩
theorem abides_below {β : Type} {B : Nat} {J : β → World → Prop} (hJ : AbidesFrom B J) {s : β} {w w' : World} (h : J s w) (k : Below w.heap.size w w') : J s w' := hJ s w w' none h (grown_of_below k) (fun r e => by cases e)
/-- What the iterator reads: the table and its two boxes, all among Ks. -/
structure It (w : World) (Ks : Nat → Prop) (Xt Xp T A b a S : Nat) (t : TS) (pl : Nat) : Prop where
  tm : Tm w T A b a S t
  ct : w.cell? ⟨Xt, 0, none⟩ = some (tp T)
  cp : w.cell? ⟨Xp, 0, none⟩ = some (.int .i64 (pl : Nat))
  lt : Ks T ∧ Ks A ∧ Ks b ∧ Ks a ∧ Ks Xt ∧ Ks Xp
theorem It.kept {w w' : World} {Ks : Nat → Prop} {Xt Xp T A b a S : Nat} {t : TS} {pl : Nat} (h : It w Ks Xt Xp T A b a S t pl) (k : Keep Ks w w') : It w' Ks Xt Xp T A b a S t pl := by
  obtain ⟨l1, l2, l3, l4, l5, l6⟩ := h.lt
  exact ⟨h.tm.kept k l1 l2 l3 l4, by rw [World.cell?_of_block (w := w) (k.block Xt (World.block_lt_of_cell? w _ h.ct) l5)]; exact h.ct, by rw [World.cell?_of_block (w := w) (k.block Xp (World.block_lt_of_cell? w _ h.cp) l6)]; exact h.cp, h.lt⟩
set_option maxRecDepth 100000 in
set_option maxHeartbeats 2000000 in
theorem iter_any (Ks : Nat → Prop) (l Xt Xp T A b a S : Nat) (t : TS) (ti : TI t.p) (pl : Nat) (hpl : pl ≤ t.p.n + t.p.z) (J Jx : List (V × V) → World → Prop) (W : World) (hJ : AbidesFrom W.heap.size J)
    (hY : ∀ pre x W1, J pre W1 → pre.length < 200000 → YieldAt Fence.wide 4 Tryz.prog l (encP x) W1 fun e W' =>
      (e = .returned (.bool true) ∧ J (pre ++ [x]) W' ∧ Keep Ks W1 W') ∨ (e = .returned (.bool false) ∧ Jx (pre ++ [x]) W'))
    (hI : It W Ks Xt Xp T A b a S t pl) (h0 : J [] W) :
    CallsIn Fence.wide 5 Tryz.prog 108 #[.func (.yield l) #[] #[], .pointer (some ⟨Xt, 0, none⟩), .pointer (some ⟨Xp, 0, none⟩)] W fun e W' => (∃ v, e = .returned v) ∧
      ((∃ ys, ys = lsF t.p (t.p.n + t.p.z - pl) (pl + 1) ∧ J ys W') ∨ (∃ pre, pre <+: lsF t.p (t.p.n + t.p.z - pl) (pl + 1) ∧ Jx pre W')) := by
  have hle := ti.le
  have hlz := ti.rt.le
  have CP : CallsIn Fence.wide 4 Tryz.prog 109 #[.pointer (some ⟨T, 0, none⟩)] W.drew fun e w' => e = .returned (.int .i64 ((t.p.n + t.p.z : Nat) : Int)) ∧ Hid (Below W.heap.size W w') ∧ w'.cell? ⟨Xp, 0, none⟩ = some (.int .i64 (pl : Nat)) :=
    callsIn_wide.2 ((places_any (hI.tm.below (bdrew1 W)) hle hlz).mono fun e w' hh => by
      have kb : Below W.heap.size W w' := bthen (bdrew1 W) (Nat.le_refl _) hh.2
      exact ⟨hh.1, kb, (hI.kept (Keep.of kb)).cp⟩)
  have ct := hI.ct
  have cp := hI.cp
  unfold tp at ct
  obtain ⟨NZ, hNZ⟩ : ∃ NZ : Nat, t.p.n + t.p.z = NZ := ⟨_, rfl⟩
  rw [hNZ] at CP hpl ⊢
  obtain ⟨M, hM⟩ : ∃ M : Nat, NZ - pl = M := ⟨_, rfl⟩
  rw [hM]
  have hws : IntKind.i64.wrap ((NZ : Int) - (pl : Int)) = (M : Int) := by rw [IntKind.wrap_i64]; omega
  have hmo : Tryz.prog.follows Departure.mixedOrders = true := by kernel_rfl
  refine callsIn_of_wp Tryz.func108 rfl trivial ?_ rfl
  simp only [Tryz.ntmps108, List.size_toArray, List.length_cons, List.length_nil, Nat.reduceAdd, Nat.reduceSub, Array.replicate_succ, Array.replicate_zero, List.push_toArray, List.append_toArray, List.nil_append, List.cons_append]
  gi_wp2
  gi_region_with_o (refine ⟨trivial, ?_⟩; gi_at_call 109; refine CP.mono ?_; rintro e w1 ⟨rfl, k1, cp1⟩)
  all_goals
    gi_wp2
    first | go_simp | simp [Act.put]
    gi_loopw [11] (fun iw wr => ∃ k : Nat, iw = .int .i64 (k : Nat) ∧ k ≤ M ∧ Hid (J (lsF t.p k (pl + 1)) wr ∧ Keep Ks W wr ∧ W.heap.size ≤ wr.heap.size)) (fun iw _ => M - (intOf iw).toNat)
    case atStart => exact ⟨0, rfl, by omega, abides_below hJ h0 k1.out, Keep.of k1.out, k1.out.size⟩
    case round =>
      obtain ⟨k, rfl, hk, HR⟩ := hrel
      clear CP ct cp cp1 k1
      have hIr := hI.kept HR.out.2.1
      have ct := hIr.ct
      have cp := hIr.cp
      unfold tp at ct
      by_cases hlt : k < M
      · have hlt' : (k : Int) < (M : Int) := by omega
        have hw1 : IntKind.i64.wrap ((pl : Int) + 1) = (pl : Int) + 1 := by rw [IntKind.wrap_i64]; omega
        have hw2 : IntKind.i64.wrap ((pl : Int) + 1 + (k : Int)) = ((pl + 1 + k : Nat) : Int) := by rw [IntKind.wrap_i64]; omega
        have hwi : IntKind.i64.wrap ((k : Int) + 1) = (k : Int) + 1 := by rw [IntKind.wrap_i64]; omega
        have CQ : CallsIn Fence.wide 4 Tryz.prog 110 #[.pointer (some ⟨T, 0, none⟩), .int .i64 ((pl + 1 + k : Nat) : Int)] wr fun e w' => e = .returned (.tuple #[.agg #[.int .i64 (prO t.p ((pl + 1 + k : Nat) : Int)).1.1, .int .i64 (prO t.p ((pl + 1 + k : Nat) : Int)).1.2.1, .string (prO t.p ((pl + 1 + k : Nat) : Int)).1.2.2], .agg #[.int .i64 (prO t.p ((pl + 1 + k : Nat) : Int)).2.1, .int .i64 (prO t.p ((pl + 1 + k : Nat) : Int)).2.2.1, .string (prO t.p ((pl + 1 + k : Nat) : Int)).2.2.2]]) ∧ Below wr.heap.size wr w' := callsIn_wide.2 (pair_at hIr.tm hle hlz _ (by omega) (by omega))
        have esn := lsF_snoc t.p k (pl + 1)
        have hlen := lsF_len t.p k (pl + 1)
        have hsub : lsF t.p (k + 1) (pl + 1) <+: lsF t.p (M) (pl + 1) := lsF_pre t.p _ _ (by omega)
        generalize prO t.p ((pl + 1 + k : Nat) : Int) = x at *
        generalize lsF t.p k (pl + 1) = pre at *
        generalize ((pl + 1 + k : Nat) : Int) = at1 at *
        have HE : Hid (lsF t.p (k + 1) (pl + 1) = pre ++ (if x.2.1 ≠ 0 then [x] else [])) := esn
        have HSb : Hid (lsF t.p (k + 1) (pl + 1) <+: lsF t.p (M) (pl + 1)) := hsub
        clear esn hsub
        have hlen2 : pre.length < 200000 := by omega
        have HJ3 : Hid (∀ w2, Below wr.heap.size wr w2 → J pre ((w2.alloc (.cells #[.int .i64 x.1.1, .int .i64 x.1.2.1, .string x.1.2.2] 37)).alloc (.cells #[.int .i64 x.2.1, .int .i64 x.2.2.1, .string x.2.2.2] 37)) ∧ Keep Ks W ((w2.alloc (.cells #[.int .i64 x.1.1, .int .i64 x.1.2.1, .string x.1.2.2] 37)).alloc (.cells #[.int .i64 x.2.1, .int .i64 x.2.2.1, .string x.2.2.2] 37)) ∧ W.heap.size ≤ ((w2.alloc (.cells #[.int .i64 x.1.1, .int .i64 x.1.2.1, .string x.1.2.2] 37)).alloc (.cells #[.int .i64 x.2.1, .int .i64 x.2.2.1, .string x.2.2.2] 37)).heap.size) := fun w2 k2 => by
          have kb := bthen k2 k2.size (b2 w2 (.cells #[.int .i64 x.1.1, .int .i64 x.1.2.1, .string x.1.2.2] 37) (.cells #[.int .i64 x.2.1, .int .i64 x.2.2.1, .string x.2.2.2] 37))
          exact ⟨abides_below hJ HR.out.1 kb, HR.out.2.1.trans (Keep.of kb), Nat.le_trans HR.out.2.2 kb.size⟩
        by_cases hx : x.2.1 = 0
        · have hx0 : (x.2.1 != 0) = false := by simp [hx]
          have HE0 : Hid (lsF t.p (k + 1) (pl + 1) = pre) := by show _ = _; rw [HE.out, if_neg (fun q => q hx)]; simp
          clear hx HE
          gi_wp2_with (refine ⟨trivial, ?_⟩; gi_at_call 110; refine CQ.mono ?_; rintro e w2 ⟨rfl, k2⟩; have HJ4 : Hid _ := HJ3.out w2 k2; clear k2)
          refine ⟨fun _ h => (by cases h), ?_⟩
          gi_wp2
          go_roundw
          case rel => exact ⟨k + 1, by go_num, by omega, by rw [HE0.out]; exact HJ4.out⟩
          case measure => simp [intOf]; omega
        · have hx0 : (x.2.1 != 0) = true := by simp [hx]
          have HE0 : Hid (lsF t.p (k + 1) (pl + 1) = pre ++ [x]) := by show _ = _; rw [HE.out, if_pos hx]
          clear hx HE
          gi_wp2_with (refine ⟨trivial, ?_⟩; gi_at_call 110; refine CQ.mono ?_; rintro e w2 ⟨rfl, k2⟩; have HJ4 : Hid _ := HJ3.out w2 k2; obtain ⟨fn, tmps, assign, body, hy, hR⟩ := hY pre x _ HJ4.out.1 hlen2; dsimp only [encP] at hy; clear k2)
          refine hR.mono ?_
          rintro e W3 (⟨rfl, hJ5, hk5⟩ | ⟨rfl, hJx5⟩)
          · have HJ5 : Hid (J (pre ++ [x]) W3 ∧ Keep Ks W W3 ∧ W.heap.size ≤ W3.heap.size) := ⟨hJ5, HJ4.out.2.1.trans hk5, Nat.le_trans HJ4.out.2.2 hk5.size⟩
            clear hJ5 hk5 hy hR
            gi_wp2
            go_roundw
            case rel => exact ⟨k + 1, by go_num, by omega, by rw [HE0.out]; exact HJ5.out⟩
            case measure => simp [intOf]; omega
          · clear hy hR
            gi_wp2
            refine bodyPost_ret (results_none rfl _ _ _) rfl ?_
            exact ⟨⟨_, rfl⟩, .inr ⟨pre ++ [x], by rw [← HE0.out]; exact HSb.out, hJx5⟩⟩
      · obtain rfl : k = M := by omega
        gi_wp2
        go_end0
        exact ⟨⟨_, rfl⟩, .inl ⟨_, rfl, HR.out.1⟩⟩
theorem iter_stops (Ks : Nat → Prop) (Xt Xp T A b a S : Nat) (t : TS) (ti : TI t.p) (pl : Nat) (hpl : pl ≤ t.p.n + t.p.z) (w : World) (hI : It w Ks Xt Xp T A b a S t pl) :
    SeqStopsK Fence.wide 5 Tryz.prog 108 #[.pointer (some ⟨Xt, 0, none⟩), .pointer (some ⟨Xp, 0, none⟩)] encP (Keep Ks) (fun xs => xs = lsF t.p (t.p.n + t.p.z - pl) (pl + 1)) (fun pre => pre <+: lsF t.p (t.p.n + t.p.z - pl) (pl + 1)) 200000 w :=
  fun l J Jx W hW hJ _ hY h0 => iter_any Ks l Xt Xp T A b a S t ti pl hpl J Jx W hJ hY (hI.kept (Keep.of hW)) h0
theorem keepK_t {Ks : Nat → Prop} {A B C : World} (h : Keep Ks A B) (k : Keep Ks B C) : Keep Ks A C := h.trans k
theorem keepK_b {Ks : Nat → Prop} {w : World} (hk : ∀ g, Ks g → g < w.heap.size) (W : World) (l : Nat) (o o' : Obj) (hl : w.heap.size ≤ l) (_ : W.heap[l]? = some o) (_ : o.isCells = false) (_ : o.isWalk = false) : Keep Ks W (W.putObj l o') :=
  ⟨rfl, rfl, rfl, by simp, fun g _ hg => World.putObj_heap_other (fun e => by have := hk g hg; omega)⟩
end Go.Proofs.YtpmmploedkbeoaaGreatDoor

/- The walk of Next. -/
namespace Go.Proofs.YtpmmploedkbeoaaGreatDoor
open Go.RowKit Go.Shelf
attribute [local go_sem] Oper.semAt_some

theorem ownFrom_of {β : Type} {B : Nat} {I : β → World → Prop} (h : ∀ s W W', I s W → Keep (fun g => g < B) W W' → I s W') : OwnFrom B I := fun s W W' row hs hg hr =>
  by
    obtain ⟨g1, g2, g3, g4, g5⟩ := hg
    exact h s W W' hs ⟨g1, g2, g3, g4, fun g hl hB => g5 g hl (fun e => by have hB' : g < B := hB; have := (hr g e.symm).1; omega)⟩
/-- Two boxes side by side. -/
structure Box2 (W : World) (B : Nat) (x : V × V) : Prop where
  k0 : W.cell? ⟨B, 0, none⟩ = some (.int .i64 x.1.1)
  k1 : W.cell? ⟨B, 1, none⟩ = some (.int .i64 x.1.2.1)
  k2 : W.cell? ⟨B, 2, none⟩ = some (.string x.1.2.2)
  v0 : W.cell? ⟨B + 1, 0, none⟩ = some (.int .i64 x.2.1)
  v1 : W.cell? ⟨B + 1, 1, none⟩ = some (.int .i64 x.2.2.1)
  v2 : W.cell? ⟨B + 1, 2, none⟩ = some (.string x.2.2.2)
theorem Box2.own {W W' : World} {row : Option Nat} {B : Nat} {x : V × V} (h : Box2 W B x) (hg : W.grownBy W' row) (hr : ∀ r, row = some r → ∃ o : Obj, W.heap[r]? = some o ∧ o.isCells = false) : Box2 W' B x :=
  ⟨cell_kept h.k0 hg hr, cell_kept h.k1 hg hr, cell_kept h.k2 hg hr, cell_kept h.v0 hg hr, cell_kept h.v1 hg hr, cell_kept h.v2 hg hr⟩
theorem Box2.kept {Ks : Nat → Prop} {W W' : World} {B : Nat} {x : V × V} (h : Box2 W B x) (k : Keep Ks W W') (h1 : Ks B) (h2 : Ks (B + 1)) : Box2 W' B x := by
  have e1 := k.block B (World.block_lt_of_cell? W _ h.k0) h1
  have e2 := k.block (B + 1) (World.block_lt_of_cell? W _ h.v0) h2
  exact ⟨by rw [World.cell?_of_block (w := W) e1]; exact h.k0, by rw [World.cell?_of_block (w := W) e1]; exact h.k1, by rw [World.cell?_of_block (w := W) e1]; exact h.k2, by rw [World.cell?_of_block (w := W) e2]; exact h.v0, by rw [World.cell?_of_block (w := W) e2]; exact h.v1, by rw [World.cell?_of_block (w := W) e2]; exact h.v2⟩
theorem Box2.made (W : World) (x : V × V) : Box2 ((W.alloc (.cells #[.int .i64 x.1.1, .int .i64 x.1.2.1, .string x.1.2.2] 37)).alloc (.cells #[.int .i64 x.2.1, .int .i64 x.2.2.1, .string x.2.2.2] 37)) W.heap.size x := by
  have a1 : Bx ((W.alloc (vb x.1.1 x.1.2.1 x.1.2.2)).alloc (vb x.2.1 x.2.2.1 x.2.2.2)) W.heap.size x.1 := (Bx.made W x.1).below (b1 _ _)
  have a2 : Bx ((W.alloc (vb x.1.1 x.1.2.1 x.1.2.2)).alloc (vb x.2.1 x.2.2.1 x.2.2.2)) (W.alloc (vb x.1.1 x.1.2.1 x.1.2.2)).heap.size x.2 := Bx.made _ x.2
  rw [show (W.alloc (vb x.1.1 x.1.2.1 x.1.2.2)).heap.size = W.heap.size + 1 by simp] at a2
  exact ⟨a1.c0, a1.c1, a1.c2, a2.c0, a2.c1, a2.c2⟩
theorem chk_ok {k : V} (h : fm k = true) : chk k.1 k.2.1 k.2.2 = 0 := by rw [chk_of, if_pos h]
end Go.Proofs.YtpmmploedkbeoaaGreatDoor

/- The walk of List. -/
namespace Go.Proofs.YtpmmploedkbeoaaGreatDoor
open Go.RowKit Go.Shelf
attribute [local go_sem] Oper.semAt_some

/-- The cells of a list of pairs. -/
def cP (x : V × V) : List Value := [.int .i64 x.1.1, .int .i64 x.1.2.1, .string x.1.2.2, .int .i64 x.2.1, .int .i64 x.2.2.1, .string x.2.2.2]
def cPs (l : List (V × V)) : List Value := l.flatMap cP
theorem cPs_snoc (l : List (V × V)) (x : V × V) : cPs (l ++ [x]) = cPs l ++ cP x := by simp [cPs]
theorem info45 : (Tryz.prog.info? 148).map (fun i => (i.zero, i.size, i.bytes)) = some (some (.agg #[.int .i64 0, .int .i64 0, .string ⟨#[]⟩, .int .i64 0, .int .i64 0, .string ⟨#[]⟩]), 6, 64) := by kernel_rfl
theorem boxed_app {W w1 : World} {base B : Nat} {t e : TypeId} {size : Nat} {v v' : Value} {k m : Nat} {xs ys : List Value} {tmp : Obj} {Ks : Nat → Prop}
    (hv : Boxed W B t v) (hte : t ≠ e) (hrow : W.ownsRow base e size v k xs) (hown' : w1.ownsRow base e size v' m ys) (hgrow : (W.alloc tmp).grownBy w1 v.ownBlock) (hK : ∀ g, Ks g → g < base ∧ g ≠ B) :
    Boxed w1 B t v ∧ Boxed (w1.setCell ⟨B, 0, none⟩ v') B t v' ∧ (w1.setCell ⟨B, 0, none⟩ v').ownsRow base e size v' m ys ∧ KeepsOthers W (w1.setCell ⟨B, 0, none⟩ v') ∧ Keep Ks W (w1.setCell ⟨B, 0, none⟩ v') := by
  have h1 : Boxed w1 B t v := (hv.alloc tmp).kept hgrow (hv.not_row hte hrow)
  have hown : ∀ j, v.ownBlock = some j → base ≤ j ∧ ∃ o : Obj, (W.alloc tmp).heap[j]? = some o ∧ o.isCells = true := fun j ej => by
    rcases (hrow.alloc tmp).2 with ⟨rfl, _⟩ | ⟨g, cap, cur, rfl, hb, hgb, _⟩
    · simp [Value.ownBlock] at ej
    · obtain rfl : g = j := by simpa [Value.ownBlock] using ej
      exact ⟨hb, _, hgb, rfl⟩
  refine ⟨h1, h1.set v', hown'.kept (grownBy_setCell' w1 B v') (.inr (h1.not_row hte hown').symm), ?_, ?_⟩
  · refine ((KeepsOthers.alloc W tmp).trans (KeepsOthers.of_grownBy hgrow fun j o ej hj => ?_)).trans (KeepsOthers.setCell _ _ _)
    obtain ⟨_, o', ho', hc⟩ := hown j ej
    rw [ho'] at hj; cases hj; exact hc
  · have k1 : Keep Ks W w1 := ((Keep.refl Ks W).alloc tmp).trans ⟨hgrow.os, hgrow.tape, hgrow.output, hgrow.size, fun g hg hk => hgrow.block g hg (fun e => by have := (hown g e.symm).1; have := (hK g hk).1; omega)⟩
    exact k1.set (p := ⟨B, 0, none⟩) (fun q => (hK B q).2 rfl) _
theorem new6 (W : World) (x : V × V) : ∀ (j : Nat) (u : Value), (cP x)[j]? = some u → (W.alloc (.cells #[.int .i64 x.1.1, .int .i64 x.1.2.1, .string x.1.2.2, .int .i64 x.2.1, .int .i64 x.2.2.1, .string x.2.2.2] 148)).cell? ((⟨W.heap.size, 0, none⟩ : Addr).add j) = some u := fun j u hu => by
  have h := (MapKept.heap_alloc W (.cells #[.int .i64 x.1.1, .int .i64 x.1.2.1, .string x.1.2.2, .int .i64 x.2.1, .int .i64 x.2.2.1, .string x.2.2.2] 148)).1
  have hj : j < 6 := by
    have := (List.getElem?_eq_some_iff.1 hu).1
    simpa [cP] using this
  have hadd : ((⟨W.heap.size, 0, none⟩ : Addr).add j) = ⟨W.heap.size, j, none⟩ := by
    by_cases hj0 : j = 0
    · subst hj0; rfl
    · simp [Addr.add, hj0]
  rw [hadd]
  obtain rfl | rfl | rfl | rfl | rfl | rfl : j = 0 ∨ j = 1 ∨ j = 2 ∨ j = 3 ∨ j = 4 ∨ j = 5 := by omega
  · cases hu; exact cell_of_row h 0
  · cases hu; exact cell_of_row h 1
  · cases hu; exact cell_of_row h 2
  · cases hu; exact cell_of_row h 3
  · cases hu; exact cell_of_row h 4
  · cases hu; exact cell_of_row h 5
theorem ownsRow_base {W : World} {base base' : Nat} {e : TypeId} {size : Nat} {v : Value} {k : Nat} {xs : List Value} (h : W.ownsRow base e size v k xs) (hb : base' ≤ base) : W.ownsRow base' e size v k xs := by
  refine ⟨h.1, ?_⟩
  rcases h.2 with q | ⟨g, cap, cur, e1, e2, e3⟩
  · exact .inl q
  · exact .inr ⟨g, cap, cur, e1, Nat.le_trans hb e2, e3⟩
set_option maxRecDepth 100000 in
set_option maxHeartbeats 4000000 in
theorem list_in {w : World} {T A b a S : Nat} {t : TS} (h : Tm w T A b a S t) (ti : TI t.p) :
    CallsIn Fence.wide 6 Tryz.prog 77 #[tp T] w fun e w' => ∃ v, e = .returned v ∧ w'.ownsRow w.heap.size 148 6 v (wl t.p).length (cPs (wl t.p)) ∧ Below w.heap.size w w' := by
  have B0 := b1 w (.cells #[.slice none 0 0] 146)
  have hb0 : Boxed (w.alloc (.cells #[.slice none 0 0] 146)) w.heap.size 146 (.slice none 0 0) := Boxed.new w 146 _
  have e0 : (w.alloc (.cells #[.slice none 0 0] 146)).heap.size = w.heap.size + 1 := by simp
  obtain ⟨W2, hW2⟩ : ∃ W2, w.alloc (.cells #[.slice none 0 0] 146) = W2 := ⟨_, rfl⟩
  rw [hW2] at B0 hb0 e0
  have htm := h.below B0
  have hmo : Tryz.prog.follows Departure.mixedOrders = true := by kernel_rfl
  have hle := ti.le
  have hlz := ti.rt.le
  have BL := b2 W2 (.cells #[.pointer (some ⟨T, 0, none⟩)] 90) (.cells #[.int .i64 (0 : Nat)] 3)
  have hL : ((W2.alloc (.cells #[.pointer (some ⟨T, 0, none⟩)] 90)).alloc (.cells #[.int .i64 (0 : Nat)] 3)).heap.size = W2.heap.size + 2 := by simp
  have hxt : ((W2.alloc (.cells #[.pointer (some ⟨T, 0, none⟩)] 90)).alloc (.cells #[.int .i64 (0 : Nat)] 3)).cell? ⟨W2.heap.size, 0, none⟩ = some (tp T) := by
    rw [(b1 (W2.alloc (.cells #[.pointer (some ⟨T, 0, none⟩)] 90)) (.cells #[.int .i64 (0 : Nat)] 3)).cell (by simp)]
    exact cell_of_row (MapKept.heap_alloc W2 _).1 0
  have hxp : ((W2.alloc (.cells #[.pointer (some ⟨T, 0, none⟩)] 90)).alloc (.cells #[.int .i64 (0 : Nat)] 3)).cell? ⟨W2.heap.size + 1, 0, none⟩ = some (.int .i64 (0 : Nat)) := by
    have q := (MapKept.heap_alloc (W2.alloc (.cells #[.pointer (some ⟨T, 0, none⟩)] 90)) (.cells #[.int .i64 (0 : Nat)] 3)).1
    rw [show (W2.alloc (.cells #[.pointer (some ⟨T, 0, none⟩)] 90)).heap.size = W2.heap.size + 1 by simp] at q
    exact cell_of_row q 0
  have hbL : Boxed ((W2.alloc (.cells #[.pointer (some ⟨T, 0, none⟩)] 90)).alloc (.cells #[.int .i64 (0 : Nat)] 3)) w.heap.size 146 (.slice none 0 0) := (hb0.alloc _).alloc _
  unfold tp
  have hnT : T ≠ w.heap.size ∧ A ≠ w.heap.size ∧ b ≠ w.heap.size ∧ a ≠ w.heap.size := by
    have q := h.pm
    have q1 := q.ltA
    have q2 := q.ltB
    have q3 := q.pt.ltb
    have q4 := q.pt.lta
    exact ⟨by omega, by omega, by omega, by omega⟩
  obtain ⟨i0, hi, hz0, hz1, hz2⟩ := info_parts info45
  have HE0 : Hid (W2.heap.size = w.heap.size + 1) := e0
  clear e0
  refine callsIn_of_wp_marks Tryz.func77 rfl trivial ?_ rfl
  simp only [Tryz.ntmps77, List.size_toArray, List.length_cons, List.length_nil, Nat.reduceAdd, Nat.reduceSub, Array.replicate_succ, Array.replicate_zero, List.push_toArray, List.append_toArray, List.nil_append, List.cons_append]
  gi_wp2_with (refine ⟨trivial, ?_⟩; gi_at_call 71; refine (callsIn_wide.2 (behind_any _ _ _)).mono ?_; rintro e w1 ⟨rfl, hw1⟩; rw [hw1]; clear hw1)
  obtain ⟨WL, hWL⟩ : ∃ WL, (W2.alloc (.cells #[.pointer (some ⟨T, 0, none⟩)] 90)).alloc (.cells #[.int .i64 (0 : Nat)] 3) = WL := ⟨_, rfl⟩
  have hWL' : (W2.alloc (.cells #[.pointer (some ⟨T, 0, none⟩)] 90)).alloc (.cells #[.int .i64 0] 3) = WL := hWL
  rw [hWL] at BL hL hxt hxp hbL
  rw [hWL']
  have hIt : It WL (fun g => g < WL.heap.size ∧ g ≠ w.heap.size) W2.heap.size (W2.heap.size + 1) T A b a S t 0 := ⟨htm.below BL, hxt, hxp, by
    have e0 := HE0.out
    have q := (htm.below BL).pm
    have q2 := q.pt.ltb
    have q3 := q.pt.lta
    exact ⟨⟨q.ltB, hnT.1⟩, ⟨q.ltA, hnT.2.1⟩, ⟨q2, hnT.2.2.1⟩, ⟨q3, hnT.2.2.2⟩, ⟨by omega, by omega⟩, ⟨by omega, by omega⟩⟩⟩
  have HL : Hid (WL.heap.size = W2.heap.size + 2) := hL
  clear hL
  refine wpIn_rangeFunc_ownH (n := 6) rfl (by omega) (gf := 108) (lb := #[.pointer (some ⟨W2.heap.size, 0, none⟩), .pointer (some ⟨W2.heap.size + 1, 0, none⟩)]) rfl trivial (enters_of Tryz.func108 (by kernel_rfl) rfl)
    (iter_stops (fun g => g < WL.heap.size ∧ g ≠ w.heap.size) W2.heap.size (W2.heap.size + 1) T A b a S t ti 0 (by omega) WL hIt) keepK_t (keepK_b (fun g q => q.1)) (Below.refl _ _) (fun _ => rfl)
    (fun pre W => (∃ v, Boxed W w.heap.size 146 v ∧ W.ownsRow WL.heap.size 148 6 v pre.length (cPs pre) ∧ True) ∧ Keep (fun g => g < WL.heap.size ∧ g ≠ w.heap.size) WL W)
    (fun _ _ _ => False)
    (OwnFrom.and (Own.from (holdsRow_own WL.heap.size w.heap.size 146 148 6 (fun pre : List (V × V) => pre.length) (fun pre => cPs pre) (fun _ _ => True)) _) (ownFrom_of fun s W W' hs hk => hs.trans (hk.sub (fun g q => q.1))))
    (fun cd => ownFrom_of fun s W W' hs hk => hs) ⟨⟨_, hbL, World.ownsRow_nil _ _ _ _, trivial⟩, Keep.refl _ _⟩
    (fun x a' W => ∃ Bk, WL.heap.size ≤ Bk ∧ Box2 W Bk x ∧ a' = { tmps := #[.pointer (some ⟨T, 0, none⟩), undef, .slice none 0 0, .pointer (some ⟨w.heap.size, 0, none⟩), .pointer (some ⟨Bk, 0, none⟩), .pointer (some ⟨Bk + 1, 0, none⟩), .pointer (some ⟨T, 0, none⟩), .func (.func 108) #[] #[.pointer (some ⟨W2.heap.size, 0, none⟩), .pointer (some ⟨W2.heap.size + 1, 0, none⟩)], .agg #[.int .i64 x.1.1, .int .i64 x.1.2.1, .string x.1.2.2], .agg #[.int .i64 x.2.1, .int .i64 x.2.2.1, .string x.2.2.2], undef, undef, undef, undef, undef, undef, undef], defers := [] })
    (fun x a' => fun _ A' B' row hs hg hr => ⟨hs.choose, hs.choose_spec.1, hs.choose_spec.2.1.own hg (fun r e => (hr r e).2), hs.choose_spec.2.2⟩) ?assign ?body ?done ?stop
  case assign =>
    rintro l pre x W K ⟨⟨v, hv, hrow, _⟩, hkw⟩ hK
    have hb2 := Box2.made W x
    have kk : Keep (fun g => g < WL.heap.size ∧ g ≠ w.heap.size) W ((W.alloc (.cells #[.int .i64 x.1.1, .int .i64 x.1.2.1, .string x.1.2.2] 37)).alloc (.cells #[.int .i64 x.2.1, .int .i64 x.2.2.1, .string x.2.2.2] 37)) := ((Keep.refl _ W).alloc _).alloc _
    have ko := ((KeepsOthers.alloc W (.cells #[.int .i64 x.1.1, .int .i64 x.1.2.1, .string x.1.2.2] 37)).trans (KeepsOthers.alloc _ (.cells #[.int .i64 x.2.1, .int .i64 x.2.2.1, .string x.2.2.2] 37))).from WL.heap.size
    have hks := hkw.size
    unfold encP
    gi_wp2
    exact hK _ _ ko kk ⟨⟨v, (hv.alloc _).alloc _, (hrow.alloc _).alloc _, trivial⟩, hkw.trans kk⟩ ⟨W.heap.size, hks, hb2, by simp⟩
  case body =>
    rintro l pre x a' W hl _ ⟨⟨v, hv, hrow, _⟩, hkw⟩ ⟨Bk, hBk, hbx, rfl⟩ hlt
    have hc0 := hv.cell
    have n0 := hbx.k0
    have n1 := hbx.k1
    have n2 := hbx.k2
    have n3 := hbx.v0
    have n4 := hbx.v1
    have n5 := hbx.v2
    have hks := hkw.size
    have h6 := new6 W x
    have hlen : (cP x).length = 1 * 6 := rfl
    have hone : ∀ u ∈ cP x, u.oneCell' = true := by simp [cP, Value.oneCell']
    have hKs : ∀ g, (fun g => g < WL.heap.size ∧ g ≠ w.heap.size) g → g < WL.heap.size ∧ g ≠ w.heap.size := fun g q => q
    gi_wp2_with (gi_at_builtin; refine wpListIn_append_own _ rfl _ _ 146 rfl WL.heap.size 148 i0 (.agg #[.int .i64 0, .int .i64 0, .string ⟨#[]⟩, .int .i64 0, .int .i64 0, .string ⟨#[]⟩]) 6 64 Tryz.underlying146 hi hz0 hz1 hz2 rfl (by decide) _ _ _ rfl (hrow.alloc _) ⟨W.heap.size, 0, none⟩ 1 1 (cP x) rfl hlen h6 hone (by unfold maxLen; omega) (by omega) (by simp; omega) ?_; intro v' w1 hown' hgrow _; obtain ⟨g', cap', rfl⟩ := ownsRow_succ hown'; obtain ⟨hv1, hv2, hr2, hk2, hb2⟩ := boxed_app hv (by decide) hrow hown' hgrow hKs; have hc1 := hv1.cell; have hf1 := hv1.frozen)
    have hr3 : (w1.setCell ⟨w.heap.size, 0, none⟩ (.slice (some ⟨g', 0, none⟩) (pre.length + 1) cap')).ownsRow WL.heap.size 148 6 (.slice (some ⟨g', 0, none⟩) (pre.length + 1) cap') (pre ++ [x]).length (cPs (pre ++ [x])) := by
      rw [cPs_snoc, List.length_append]
      exact hr2
    first | exact ⟨hk2.from _, hb2, ⟨_, hv2, hr3, trivial⟩, hkw.trans hb2⟩ | exact ⟨hk2.from _, hb2, ⟨_, hv2, hr3⟩, hkw.trans hb2⟩
  case done =>
    rintro D xs W hD hxs ⟨⟨v, hv, hrow, _⟩, hkw⟩ hK
    have hc0 := hv.cell
    gi_wp2
    refine ⟨by simp, .inl ⟨_, _, rfl, run_takeDeferred hK, ?_⟩⟩
    have exs : xs = wl t.p := hxs
    rw [exs] at hrow
    refine ⟨v, by simp [results, Tryz.results77, go_sem], v, rfl, ownsRow_base (ownsRow_putObj hrow _ hK rfl) (by have := HE0.out; have := HL.out; omega), ?_⟩
    have kq := hkw.trans (keepK_b (Ks := fun g => g < WL.heap.size ∧ g ≠ w.heap.size) (w := WL) (fun g q => q.1) W D _ (.deferred none) hD hK rfl rfl)
    exact (bthen B0 B0.size BL).trans (kq.below (by have := HE0.out; have := HL.out; omega) (fun g hg => ⟨by have := HE0.out; have := HL.out; omega, by omega⟩))
  case stop =>
    rintro D c pre W _ _ h _
    exact h.elim
theorem list_any {w : World} {T A b a S : Nat} {t : TS} (h : Tm w T A b a S t) (ti : TI t.p) :
    Calls Tryz.prog 77 #[tp T] w fun e w' => ∃ v, e = .returned v ∧ w'.ownsRow w.heap.size 148 6 v (wl t.p).length (cPs (wl t.p)) ∧ Below w.heap.size w w' := callsIn_wide.1 (list_in h ti)
end Go.Proofs.YtpmmploedkbeoaaGreatDoor
