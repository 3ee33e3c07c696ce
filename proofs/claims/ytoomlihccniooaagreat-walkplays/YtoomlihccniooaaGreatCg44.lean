/- The pure part of the walk: places, the next pair, the list of all pairs. -/
import Derived.Test.YtoomlihccniooaaGreatCg33
import Derived.Test.YtoomlihccniooaaGreatCg40
import Derived.RangeFuncNested
import Derived.RangeFuncBound
import Derived.RangeFuncCalls
import Derived.RangeFuncLeaves
import Derived.RangeFuncFrom
import Derived.Shelf.Abstract
import Derived.Shelf.RegionOpen
import Derived.WalkKit
import Derived.OwnWalkIn
import Derived.TacticsInMore
import Derived.LoopNIn
import Derived.LoopIn
namespace Go.Proofs.YtoomlihccniooaaGreat
open Go.RowKit

/-- The first pair from a place on, and all of them. -/
def nxF (p : Pa) : Nat → Nat → V × V
  | 0, _ => (nil, nil)
  | f + 1, i => if (prO p i).2.1 ≠ 0 then prO p i else nxF p f (i + 1)
def lsF (p : Pa) : Nat → Nat → List (V × V)
  | 0, _ => []
  | f + 1, i => if (prO p i).2.1 ≠ 0 then prO p i :: lsF p f (i + 1) else lsF p f (i + 1)
def pnx (p : Pa) (i : Nat) : V × V := nxF p (p.n + p.z - i) (i + 1)
def wl (p : Pa) : List (V × V) := lsF p (p.n + p.z) 1
/-- What Next answers. -/
def wnx (p : Pa) (k : V) : V × V × Int :=
  if fm k = false then (nil, nil, 2) else if k.1 = 0 then ((pnx p 0).1, (pnx p 0).2, 0)
  else if plc p k = 0 then (nil, nil, 9) else ((pnx p (plc p k).toNat).1, (pnx p (plc p k).toNat).2, 0)
theorem lsF_nil {p : Pa} : ∀ {f i : Nat}, lsF p f i = [] → nxF p f i = (nil, nil)
  | 0, _, _ => rfl
  | f + 1, i, h => by
    rw [lsF] at h
    rw [nxF]
    split at h
    · cases h
    · rename_i q; rw [if_neg q]; exact lsF_nil h
theorem lsF_cons {p : Pa} : ∀ {f i : Nat} {x : V × V} {l : List (V × V)}, lsF p f i = x :: l → nxF p f i = x ∧ ∃ j, i ≤ j ∧ j < i + f ∧ x = prO p j ∧ (prO p j).2.1 ≠ 0 ∧ l = lsF p (i + f - (j + 1)) (j + 1)
  | 0, _, _, _, h => by cases h
  | f + 1, i, x, l, h => by
    rw [lsF] at h
    rw [nxF]
    split at h
    · rename_i q
      rw [if_pos q]
      injection h with h1 h2
      refine ⟨h1, i, Nat.le_refl _, by omega, h1.symm, q, ?_⟩
      rw [← h2]; congr 1; omega
    · rename_i q
      rw [if_neg q]
      obtain ⟨a, j, h1, h2, h3, h4, h5⟩ := lsF_cons h
      refine ⟨a, j, by omega, by omega, h3, h4, ?_⟩
      rw [h5]; congr 1; omega
/-- The places of what is listed. -/
def Rise (p : Pa) : Nat → List (V × V) → Prop
  | _, [] => True
  | i, x :: l => ∃ j, i < j ∧ j ≤ p.n + p.z ∧ x = prO p j ∧ (prO p j).2.1 ≠ 0 ∧ pnx p i = x ∧ Rise p j l
theorem lsF_rise {p : Pa} : ∀ (l : List (V × V)) (i : Nat), i ≤ p.n + p.z → lsF p (p.n + p.z - i) (i + 1) = l → Rise p i l
  | [], _, _, _ => trivial
  | x :: l, i, hi, h => by
    obtain ⟨a, j, h1, h2, h3, h4, h5⟩ := lsF_cons h
    refine ⟨j, by omega, by omega, h3, h4, a, lsF_rise l j (by omega) ?_⟩
    rw [h5]; congr 1; omega
theorem wl_rise (p : Pa) : Rise p 0 (wl p) := lsF_rise _ 0 (by omega) rfl
theorem lsF_mem {p : Pa} {x : V × V} : ∀ {f i : Nat}, x ∈ lsF p f i ↔ ∃ j, i ≤ j ∧ j < i + f ∧ (prO p j).2.1 ≠ 0 ∧ x = prO p j
  | 0, i => by simp [lsF]; intro j h1 h2; omega
  | f + 1, i => by
    rw [lsF]
    have ih := lsF_mem (p := p) (x := x) (f := f) (i := i + 1)
    split
    · rename_i q
      rw [List.mem_cons, ih]
      constructor
      · rintro (h | ⟨j, h1, h2, h3, h4⟩)
        · exact ⟨i, by omega, by omega, q, h⟩
        · exact ⟨j, by omega, by omega, h3, h4⟩
      · rintro ⟨j, h1, h2, h3, h4⟩
        by_cases e : j = i
        · subst e; exact .inl h4
        · exact .inr ⟨j, by omega, by omega, h3, h4⟩
    · rename_i q
      rw [ih]
      constructor
      · rintro ⟨j, h1, h2, h3, h4⟩; exact ⟨j, by omega, by omega, h3, h4⟩
      · rintro ⟨j, h1, h2, h3, h4⟩
        by_cases e : j = i
        · subst e; exact absurd h3 q
        · exact ⟨j, by omega, by omega, h3, h4⟩
theorem lsF_len (p : Pa) : ∀ f i, (lsF p f i).length ≤ f
  | 0, _ => by simp [lsF]
  | f + 1, i => by
    have := lsF_len p f (i + 1)
    rw [lsF]; split <;> simp <;> omega
theorem prO_A {p : Pa} {i : Nat} (h0 : 1 ≤ i) (h1 : i ≤ p.n) : prO p i = (kn i, p.F (i - 1)) := by
  unfold prO; rw [if_neg (by omega), if_pos (by omega)]; simp
theorem prO_H {p : Pa} {i : Nat} (h1 : i < p.z) : prO p ((p.n + 1 + i : Nat) : Int) = (p.g.K i, p.g.X i) := by
  unfold prO
  rw [if_neg (by omega), if_neg (by omega), if_pos (by omega)]
  have : ((p.n + 1 + i : Nat) : Int).toNat - p.n - 1 = i := by omega
  rw [this]
theorem plc_node {p : Pa} (h : TI p) {i : Nat} (hi : i < p.z) (hn : p.g.K i ≠ nil) : plc p (p.g.K i) = ((p.n + 1 + i : Nat) : Int) := by
  have hk := (h.inv.key i hi).resolve_left hn
  have hz0 : p.z ≠ 0 := by omega
  obtain ⟨_, _, _, _, hf⟩ := h.inv.find_held (fun k _ => pl_lt (h.rt.resolve_left hz0) k) hi hn
  unfold plc
  rw [if_neg (h.out i hi), fnd_good hz0 hk, hf]
  simp
/-- A pair that is there has its key's place. -/
theorem plc_prO {p : Pa} (h : TI p) {i : Nat} (h0 : 1 ≤ i) (h1 : i ≤ p.n + p.z) (hv : (prO p i).2.1 ≠ 0) : plc p (prO p i).1 = i ∧ fm (prO p i).1 = true ∧ (prO p i).1.1 ≠ 0 ∧ pget p (prO p i).1 = (prO p i).2 ∧ Rng (prO p i).1 := by
  by_cases q : i ≤ p.n
  · rw [prO_A h0 q] at hv ⊢
    obtain ⟨j, rfl⟩ : ∃ j, i = j + 1 := ⟨i - 1, by omega⟩
    have e : ((j + 1 : Nat) : Int) = (j : Int) + 1 := by omega
    rw [e]
    have hA : inA p.n (kn ((j : Int) + 1)) := inA_kn.2 (by omega)
    refine ⟨by unfold plc; rw [if_pos hA], fm_kn _, by simp, ?_, by have := h.le; constructor <;> simp <;> omega⟩
    simpa using h.get_slot (i := j) (by omega)
  · obtain ⟨j, hj, rfl⟩ : ∃ j, j < p.z ∧ i = p.n + 1 + j := ⟨i - p.n - 1, by omega, by omega⟩
    rw [prO_H hj] at hv ⊢
    obtain ⟨hn, hk⟩ := h.live hj hv
    exact ⟨plc_node h hj hn, hk.1, hk.2.1, h.get_node hj hn, ⟨hk.2.2.1, hk.2.2.2⟩⟩
theorem lsF_snoc (p : Pa) : ∀ (k i : Nat), lsF p (k + 1) i = lsF p k i ++ (if (prO p ((i + k : Nat) : Int)).2.1 ≠ 0 then [prO p ((i + k : Nat) : Int)] else [])
  | 0, i => by
    rw [lsF, lsF]
    by_cases q : (prO p ((i : Nat) : Int)).2.1 ≠ 0
    · rw [if_pos q, show i + 0 = i from rfl, if_pos q]; rfl
    · rw [if_neg q, show i + 0 = i from rfl, if_neg q]; rfl
  | k + 1, i => by
    have ih := lsF_snoc p k (i + 1)
    rw [show i + 1 + k = i + (k + 1) by omega] at ih
    rw [lsF, ih]
    conv => rhs; rw [lsF]
    split <;> simp
theorem lsF_pre (p : Pa) (k i : Nat) : ∀ {m : Nat}, k ≤ m → lsF p k i <+: lsF p m i := fun {m} h => by
  induction m with
  | zero => obtain rfl : k = 0 := by omega
            exact List.prefix_refl _
  | succ m ih =>
    by_cases e : k = m + 1
    · rw [e]; exact List.prefix_refl _
    · rw [lsF_snoc]
      exact (ih (by omega)).trans (List.prefix_append _ _)
end Go.Proofs.YtoomlihccniooaaGreat

/- The walks of behind and of the iterator that it answers: it tells the pairs behind a place. -/
namespace Go.Proofs.YtoomlihccniooaaGreat
open Go.RowKit Go.Shelf
attribute [local go_sem] Oper.semAt_some

theorem behind_any (q : Option Addr) (pl : Int) (w : World) : Calls Tryz.prog 53 #[.pointer q, .int .i64 pl] w fun e w' => e = .returned (.func (.func 81) #[] #[.pointer (some ⟨w.heap.size, 0, none⟩), .pointer (some ⟨w.heap.size + 1, 0, none⟩)]) ∧ w' = (w.alloc (.cells #[.pointer q] 26)).alloc (.cells #[.int .i64 pl] 3) := by
  go_enter Tryz.func53, Tryz.ntmps53
  go_wp2
  go_ret
  exact ⟨by simp, rfl⟩
/-- A pair as the iterator hands it on. -/
def encP (x : V × V) : Array Value := #[.agg #[.int .i64 x.1.1, .int .i64 x.1.2.1, .string x.1.2.2], .agg #[.int .i64 x.2.1, .int .i64 x.2.2.1, .string x.2.2.2]]
theorem grown_of_below {w w' : World} (h : Below w.heap.size w w') : w.grownBy w' none := ⟨h.os, h.tape, h.output, h.size, fun k hk _ => h.block k hk⟩
theorem abides_below {β : Type} {B : Nat} {J : β → World → Prop} (hJ : AbidesFrom B J) {s : β} {w w' : World} (h : J s w) (k : Below w.heap.size w w') : J s w' := hJ s w w' none h (grown_of_below k) (fun r e => by cases e)
/-- What the iterator reads: the table and its two boxes, all among Ks. -/
structure It (w : World) (Ks : Nat → Prop) (Xt Xp T A b a S : Nat) (t : TS) (pl : Nat) : Prop where
  tm : Tm w T A b a S t
  ct : w.cell? ⟨Xt, 0, none⟩ = some (tp T)
  cp : w.cell? ⟨Xp, 0, none⟩ = some (.int .i64 (pl : Nat))
  lt : Ks T ∧ Ks A ∧ Ks b ∧ Ks a ∧ Ks Xt ∧ Ks Xp
theorem It.kept {w w' : World} {Ks : Nat → Prop} {Xt Xp T A b a S : Nat} {t : TS} {pl : Nat} (h : It w Ks Xt Xp T A b a S t pl) (k : Keep Ks w w') : It w' Ks Xt Xp T A b a S t pl := by
  obtain ⟨l1, l2, l3, l4, l5, l6⟩ := h.lt
  exact ⟨h.tm.kept k l1 l2 l3 l4, by rw [World.cell?_of_block (w := w) (k.block Xt (World.block_lt_of_cell? w _ h.ct) l5)]; exact h.ct, by rw [World.cell?_of_block (w := w) (k.block Xp (World.block_lt_of_cell? w _ h.cp) l6)]; exact h.cp, h.lt⟩
set_option maxRecDepth 100000 in
set_option maxHeartbeats 2000000 in
theorem iter_any (Ks : Nat → Prop) (l Xt Xp T A b a S : Nat) (t : TS) (ti : TI t.p) (pl : Nat) (hpl : pl ≤ t.p.n + t.p.z) (J Jx : List (V × V) → World → Prop) (W : World) (hJ : AbidesFrom W.heap.size J)
    (hY : ∀ pre x W1, J pre W1 → pre.length < 200000 → YieldAt Fence.wide 4 Tryz.prog l (encP x) W1 fun e W' =>
      (e = .returned (.bool true) ∧ J (pre ++ [x]) W' ∧ Keep Ks W1 W') ∨ (e = .returned (.bool false) ∧ Jx (pre ++ [x]) W'))
    (hI : It W Ks Xt Xp T A b a S t pl) (h0 : J [] W) :
    CallsIn Fence.wide 5 Tryz.prog 81 #[.func (.yield l) #[] #[], .pointer (some ⟨Xt, 0, none⟩), .pointer (some ⟨Xp, 0, none⟩)] W fun e W' => (∃ v, e = .returned v) ∧
      ((∃ ys, ys = lsF t.p (t.p.n + t.p.z - pl) (pl + 1) ∧ J ys W') ∨ (∃ pre, pre <+: lsF t.p (t.p.n + t.p.z - pl) (pl + 1) ∧ Jx pre W')) := by
  have hle := ti.le
  have hlz := ti.rt.le
  have CP : CallsIn Fence.wide 4 Tryz.prog 82 #[.pointer (some ⟨T, 0, none⟩)] W.drew fun e w' => e = .returned (.int .i64 ((t.p.n + t.p.z : Nat) : Int)) ∧ Hid (Below W.heap.size W w') ∧ w'.cell? ⟨Xp, 0, none⟩ = some (.int .i64 (pl : Nat)) :=
    callsIn_wide.2 ((places_any (hI.tm.below (bdrew1 W)) hle hlz).mono fun e w' hh => by
      have kb : Below W.heap.size W w' := bthen (bdrew1 W) (Nat.le_refl _) hh.2
      exact ⟨hh.1, kb, (hI.kept (Keep.of kb)).cp⟩)
  have ct := hI.ct
  have cp := hI.cp
  unfold tp at ct
  obtain ⟨NZ, hNZ⟩ : ∃ NZ : Nat, t.p.n + t.p.z = NZ := ⟨_, rfl⟩
  rw [hNZ] at CP hpl ⊢
  obtain ⟨M, hM⟩ : ∃ M : Nat, NZ - pl = M := ⟨_, rfl⟩
  rw [hM]
  have hws : IntKind.i64.wrap ((NZ : Int) - (pl : Int)) = (M : Int) := by rw [IntKind.wrap_i64]; omega
  have hmo : Tryz.prog.follows Departure.mixedOrders = true := by kernel_rfl
  refine callsIn_of_wp Tryz.func81 rfl trivial ?_ rfl
  simp only [Tryz.ntmps81, List.size_toArray, List.length_cons, List.length_nil, Nat.reduceAdd, Nat.reduceSub, Array.replicate_succ, Array.replicate_zero, List.push_toArray, List.append_toArray, List.nil_append, List.cons_append]
  gi_wp2
  gi_region_with_o (refine ⟨trivial, ?_⟩; gi_at_call 82; refine CP.mono ?_; rintro e w1 ⟨rfl, k1, cp1⟩)
  all_goals
    gi_wp2
    first | go_simp | simp [Act.put]
    gi_loopw [11] (fun iw wr => ∃ k : Nat, iw = .int .i64 (k : Nat) ∧ k ≤ M ∧ Hid (J (lsF t.p k (pl + 1)) wr ∧ Keep Ks W wr ∧ W.heap.size ≤ wr.heap.size)) (fun iw _ => M - (intOf iw).toNat)
    case atStart => exact ⟨0, rfl, by omega, abides_below hJ h0 k1.out, Keep.of k1.out, k1.out.size⟩
    case round =>
      obtain ⟨k, rfl, hk, HR⟩ := hrel
      clear CP ct cp cp1 k1
      have hIr := hI.kept HR.out.2.1
      have ct := hIr.ct
      have cp := hIr.cp
      unfold tp at ct
      by_cases hlt : k < M
      · have hlt' : (k : Int) < (M : Int) := by omega
        have hw1 : IntKind.i64.wrap ((pl : Int) + 1) = (pl : Int) + 1 := by rw [IntKind.wrap_i64]; omega
        have hw2 : IntKind.i64.wrap ((pl : Int) + 1 + (k : Int)) = ((pl + 1 + k : Nat) : Int) := by rw [IntKind.wrap_i64]; omega
        have hwi : IntKind.i64.wrap ((k : Int) + 1) = (k : Int) + 1 := by rw [IntKind.wrap_i64]; omega
        have CQ : CallsIn Fence.wide 4 Tryz.prog 74 #[.pointer (some ⟨T, 0, none⟩), .int .i64 ((pl + 1 + k : Nat) : Int)] wr fun e w' => e = .returned (.tuple #[.agg #[.int .i64 (prO t.p ((pl + 1 + k : Nat) : Int)).1.1, .int .i64 (prO t.p ((pl + 1 + k : Nat) : Int)).1.2.1, .string (prO t.p ((pl + 1 + k : Nat) : Int)).1.2.2], .agg #[.int .i64 (prO t.p ((pl + 1 + k : Nat) : Int)).2.1, .int .i64 (prO t.p ((pl + 1 + k : Nat) : Int)).2.2.1, .string (prO t.p ((pl + 1 + k : Nat) : Int)).2.2.2]]) ∧ Below wr.heap.size wr w' := callsIn_wide.2 (pair_at hIr.tm hle hlz _ (by omega) (by omega))
        have esn := lsF_snoc t.p k (pl + 1)
        have hlen := lsF_len t.p k (pl + 1)
        have hsub : lsF t.p (k + 1) (pl + 1) <+: lsF t.p (M) (pl + 1) := lsF_pre t.p _ _ (by omega)
        generalize prO t.p ((pl + 1 + k : Nat) : Int) = x at *
        generalize lsF t.p k (pl + 1) = pre at *
        generalize ((pl + 1 + k : Nat) : Int) = at1 at *
        have HE : Hid (lsF t.p (k + 1) (pl + 1) = pre ++ (if x.2.1 ≠ 0 then [x] else [])) := esn
        have HSb : Hid (lsF t.p (k + 1) (pl + 1) <+: lsF t.p (M) (pl + 1)) := hsub
        clear esn hsub
        have hlen2 : pre.length < 200000 := by omega
        have HJ3 : Hid (∀ w2, Below wr.heap.size wr w2 → J pre ((w2.alloc (.cells #[.int .i64 x.1.1, .int .i64 x.1.2.1, .string x.1.2.2] 31)).alloc (.cells #[.int .i64 x.2.1, .int .i64 x.2.2.1, .string x.2.2.2] 31)) ∧ Keep Ks W ((w2.alloc (.cells #[.int .i64 x.1.1, .int .i64 x.1.2.1, .string x.1.2.2] 31)).alloc (.cells #[.int .i64 x.2.1, .int .i64 x.2.2.1, .string x.2.2.2] 31)) ∧ W.heap.size ≤ ((w2.alloc (.cells #[.int .i64 x.1.1, .int .i64 x.1.2.1, .string x.1.2.2] 31)).alloc (.cells #[.int .i64 x.2.1, .int .i64 x.2.2.1, .string x.2.2.2] 31)).heap.size) := fun w2 k2 => by
          have kb := bthen k2 k2.size (b2 w2 (.cells #[.int .i64 x.1.1, .int .i64 x.1.2.1, .string x.1.2.2] 31) (.cells #[.int .i64 x.2.1, .int .i64 x.2.2.1, .string x.2.2.2] 31))
          exact ⟨abides_below hJ HR.out.1 kb, HR.out.2.1.trans (Keep.of kb), Nat.le_trans HR.out.2.2 kb.size⟩
        by_cases hx : x.2.1 = 0
        · have hx0 : (x.2.1 != 0) = false := by simp [hx]
          have HE0 : Hid (lsF t.p (k + 1) (pl + 1) = pre) := by show _ = _; rw [HE.out, if_neg (fun q => q hx)]; simp
          clear hx HE
          gi_wp2_with (refine ⟨trivial, ?_⟩; gi_at_call 74; refine CQ.mono ?_; rintro e w2 ⟨rfl, k2⟩; have HJ4 : Hid _ := HJ3.out w2 k2; clear k2)
          refine ⟨fun _ h => (by cases h), ?_⟩
          gi_wp2
          go_roundw
          case rel => exact ⟨k + 1, by go_num, by omega, by rw [HE0.out]; exact HJ4.out⟩
          case measure => simp [intOf]; omega
        · have hx0 : (x.2.1 != 0) = true := by simp [hx]
          have HE0 : Hid (lsF t.p (k + 1) (pl + 1) = pre ++ [x]) := by show _ = _; rw [HE.out, if_pos hx]
          clear hx HE
          gi_wp2_with (refine ⟨trivial, ?_⟩; gi_at_call 74; refine CQ.mono ?_; rintro e w2 ⟨rfl, k2⟩; have HJ4 : Hid _ := HJ3.out w2 k2; obtain ⟨fn, tmps, assign, body, hy, hR⟩ := hY pre x _ HJ4.out.1 hlen2; dsimp only [encP] at hy; clear k2)
          refine hR.mono ?_
          rintro e W3 (⟨rfl, hJ5, hk5⟩ | ⟨rfl, hJx5⟩)
          · have HJ5 : Hid (J (pre ++ [x]) W3 ∧ Keep Ks W W3 ∧ W.heap.size ≤ W3.heap.size) := ⟨hJ5, HJ4.out.2.1.trans hk5, Nat.le_trans HJ4.out.2.2 hk5.size⟩
            clear hJ5 hk5 hy hR
            gi_wp2
            go_roundw
            case rel => exact ⟨k + 1, by go_num, by omega, by rw [HE0.out]; exact HJ5.out⟩
            case measure => simp [intOf]; omega
          · clear hy hR
            gi_wp2
            refine bodyPost_ret (results_none rfl _ _ _) rfl ?_
            exact ⟨⟨_, rfl⟩, .inr ⟨pre ++ [x], by rw [← HE0.out]; exact HSb.out, hJx5⟩⟩
      · obtain rfl : k = M := by omega
        gi_wp2
        go_end0
        exact ⟨⟨_, rfl⟩, .inl ⟨_, rfl, HR.out.1⟩⟩
theorem iter_stops (Ks : Nat → Prop) (Xt Xp T A b a S : Nat) (t : TS) (ti : TI t.p) (pl : Nat) (hpl : pl ≤ t.p.n + t.p.z) (w : World) (hI : It w Ks Xt Xp T A b a S t pl) :
    SeqStopsK Fence.wide 5 Tryz.prog 81 #[.pointer (some ⟨Xt, 0, none⟩), .pointer (some ⟨Xp, 0, none⟩)] encP (Keep Ks) (fun xs => xs = lsF t.p (t.p.n + t.p.z - pl) (pl + 1)) (fun pre => pre <+: lsF t.p (t.p.n + t.p.z - pl) (pl + 1)) 200000 w :=
  fun l J Jx W hW hJ _ hY h0 => iter_any Ks l Xt Xp T A b a S t ti pl hpl J Jx W hJ hY (hI.kept (Keep.of hW)) h0
theorem keepK_t {Ks : Nat → Prop} {A B C : World} (h : Keep Ks A B) (k : Keep Ks B C) : Keep Ks A C := h.trans k
theorem keepK_b {Ks : Nat → Prop} {w : World} (hk : ∀ g, Ks g → g < w.heap.size) (W : World) (l : Nat) (o o' : Obj) (hl : w.heap.size ≤ l) (_ : W.heap[l]? = some o) (_ : o.isCells = false) (_ : o.isWalk = false) : Keep Ks W (W.putObj l o') :=
  ⟨rfl, rfl, rfl, by simp, fun g _ hg => World.putObj_heap_other (fun e => by have := hk g hg; omega)⟩
end Go.Proofs.YtoomlihccniooaaGreat
