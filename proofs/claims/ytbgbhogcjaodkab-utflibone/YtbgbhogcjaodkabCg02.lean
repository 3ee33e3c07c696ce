/- The walk of the iterator that between answers: it tells the runes between two places. -/
import Derived.Test.YtbgbhogcjaodkabCg01
import Derived.RangeFuncNested
import Derived.RangeFuncBound
import Derived.RangeFuncCalls
import Derived.RangeFuncLeaves
import Derived.RangeFuncFrom
import Derived.Shelf.Abstract
import Derived.Shelf.RegionOpen
import Derived.WalkKit
import Derived.OwnWalkIn
import Derived.TacticsInMore
import Derived.LoopNIn
import Derived.LoopIn
import Derived.Test.YtbgbhogcjaodkabCg00
import Derived.RangeFuncBox
namespace Go.Proofs.Ytbgbhogcjaodkab
open Go.RowKit Go.Shelf
attribute [local go_sem] Oper.semAt_some

/-- A rune as the iterator hands it on: its place, its code point. -/
def encP (s : ByteArray) (x : Fin s.size) : Array Value := #[.int .i64 ((x.1 : Int) + 1), .int .i32 (rn s x.1)]
/-- The rune at a byte. -/
def rA (s : ByteArray) (x : Fin s.size) : Rn := (x.1, wd s x.1, rn s x.1)
theorem grown_of_below {w w' : World} (h : Below w.heap.size w w') : w.grownBy w' none := ⟨h.os, h.tape, h.output, h.size, fun k hk _ => h.block k hk⟩
theorem abides_below {β : Type} {B : Nat} {J : β → World → Prop} (hJ : AbidesFrom B J) {s : β} {w w' : World} (h : J s w) (k : Below w.heap.size w w') : J s w' := hJ s w w' none h (grown_of_below k) (fun r e => by cases e)
/-- What a round keeps: the blocks of Ks, and the text's iterator. -/
def KW (Ks : Nat → Prop) (A B : World) : Prop := Keep Ks A B ∧ KeepsWalks A B
/-- What the iterator reads: its three boxes. -/
structure It (w : World) (Ks : Nat → Prop) (X : Nat) (s : ByteArray) (a b : Int) : Prop where
  cs : w.cell? ⟨X, 0, none⟩ = some (.string s)
  ca : w.cell? ⟨X + 1, 0, none⟩ = some (.int .i64 a)
  cb : w.cell? ⟨X + 2, 0, none⟩ = some (.int .i64 b)
  lt : Ks X ∧ Ks (X + 1) ∧ Ks (X + 2)
theorem It.kept {w w' : World} {Ks : Nat → Prop} {X : Nat} {s : ByteArray} {a b : Int} (h : It w Ks X s a b) (k : Keep Ks w w') : It w' Ks X s a b := by
  obtain ⟨l1, l2, l3⟩ := h.lt
  exact ⟨by rw [World.cell?_of_block (w := w) (k.block X (World.block_lt_of_cell? w _ h.cs) l1)]; exact h.cs, by rw [World.cell?_of_block (w := w) (k.block (X + 1) (World.block_lt_of_cell? w _ h.ca) l2)]; exact h.ca, by rw [World.cell?_of_block (w := w) (k.block (X + 2) (World.block_lt_of_cell? w _ h.cb) l3)]; exact h.cb, h.lt⟩
/-- Where an iterator over a text stands. -/
def posOf (w : World) (k : Nat) : Nat := match w.heap[k]? with
  | some (.stringIter _ p) => p
  | _ => 0
theorem posOf_at {w : World} {k : Nat} {s : ByteArray} {p : Nat} (h : w.heap[k]? = some (.stringIter s p)) : posOf w k = p := by unfold posOf; rw [h]
theorem keep_iterAt {Ks : Nat → Prop} {W0 w : World} {k : Nat} {x : ByteArray} {p : Nat} (h : Keep Ks W0 w) (hk : ¬ Ks k) : Keep Ks W0 (w.iterAt k x p) :=
  h.trans ⟨rfl, rfl, rfl, by rw [Lib.iterAt_size]; exact Nat.le_refl _, fun g _ hg => Lib.iterAt_other w k g x p (fun e => hk (e ▸ hg))⟩
theorem abides_iterAt {β : Type} {B : Nat} {J : β → World → Prop} (hJ : AbidesFrom B J) {s : β} {w : World} {k : Nat} {x : ByteArray} {p p' : Nat} (h : J s w) (hi : w.heap[k]? = some (.stringIter x p)) (hB : B ≤ k) : J s (w.iterAt k x p') :=
  hJ s w _ (some k) h ⟨rfl, rfl, rfl, by rw [Lib.iterAt_size]; exact Nat.le_refl _, fun g _ hg => Lib.iterAt_other w k g x p' (fun e => hg (by rw [e]))⟩ (fun r e => by cases e; exact ⟨hB, _, hi, rfl⟩)
set_option maxRecDepth 100000 in
set_option maxHeartbeats 2000000 in
theorem iter_any (Ks : Nat → Prop) (l X : Nat) (s : ByteArray) (a : Nat) (b : Int) (hs : s.size ≤ 140737488351232) (hb : b ≤ s.size) (ha : (a : Int) + 1 ≤ b) (J Jx : List (Fin s.size) → World → Prop) (W : World) (hJ : AbidesFrom W.heap.size J)
    (hKl : ∀ g, Ks g → g < W.heap.size)
    (hY : ∀ pre x W1, J pre W1 → pre.length < 140737488351232 → YieldAt Fence.wide 4 Try.prog l (encP s x) W1 fun e W' =>
      (e = .returned (.bool true) ∧ J (pre ++ [x]) W' ∧ KW Ks W1 W') ∨ (e = .returned (.bool false) ∧ Jx (pre ++ [x]) W'))
    (hI : It W Ks X s ((a : Int) + 1) b) (h0 : J [] W) :
    CallsIn Fence.wide 5 Try.prog 22 #[.func (.yield l) #[] #[], .pointer (some ⟨X + 1, 0, none⟩), .pointer (some ⟨X + 2, 0, none⟩), .pointer (some ⟨X, 0, none⟩)] W fun e W' => (∃ v, e = .returned v) ∧
      ((∃ ys : List (Fin s.size), ys.map (rA s) = bw s a b ∧ J ys W') ∨ (∃ pre : List (Fin s.size), pre.map (rA s) <+: bw s a b ∧ Jx pre W')) := by
  have cs := hI.cs
  have ca := hI.ca
  have cb := hI.cb
  have hgt : ¬ b < (a : Int) + 1 := by omega
  have hmo : Try.prog.follows Departure.mixedOrders = true := by kernel_rfl
  have w1 : IntKind.i64.wrap ((a : Int) + 1 - 1) = (a : Int) := by rw [IntKind.wrap_i64]; omega
  have hal : (a : Int) ≤ (s.size : Int) := by omega
  obtain ⟨x, hx⟩ : ∃ x, s.extract a s.size = x := ⟨_, rfl⟩
  have hxz : x.size = s.size - a := by rw [← hx]; simp [ByteArray.size_extract]
  refine callsIn_of_wp Try.func22 rfl trivial ?_ rfl
  simp only [Try.ntmps22, List.size_toArray, List.length_cons, List.length_nil, Nat.reduceAdd, Nat.reduceSub, Array.replicate_succ, Array.replicate_zero, List.push_toArray, List.append_toArray, List.nil_append, List.cons_append]
  gi_wp2
  gi_loopw [] (fun wr => ∃ (q : Nat) (done : List (Fin s.size)), wr.heap[W.heap.size]? = some (.stringIter x q) ∧ done.length ≤ q ∧ q ≤ s.size ∧ Hid (bw s a b = done.map (rA s) ++ bw s (a + q) b) ∧ Hid (J done wr ∧ Keep Ks W wr)) (fun wr => x.size + 1 - posOf wr W.heap.size)
  case atStart => exact ⟨0, [], World.iter_heap W x 0, Nat.le_refl _, by omega, rfl, abides_below hJ h0 (b1 _ _), (Keep.refl _ _).alloc _⟩
  case round =>
    obtain ⟨q, done, hi, hdl, hqs, HB, HR⟩ := hrel
    clear cs ca cb
    have hIr := hI.kept HR.out.2
    have ca := hIr.ca
    have cb := hIr.cb
    clear hIr
    have hnk : ¬ Ks W.heap.size := fun h => by have := hKl _ h; omega
    have hp0 := posOf_at hi
    by_cases hq : q < x.size
    · have hnx : ∀ ty, (Instr.next (.pointer (some ⟨W.heap.size, 0, none⟩)) true ty).run Try.prog wr = .ok (.tuple #[.bool true, .int .i64 q, .int .i32 (rn x q)]) (wr.iterAt W.heap.size x (q + wd x q)) := fun ty => Lib.run_next_any_at wr W.heap.size x q ty hi hq
      have hwp := wd_pos x q
      have hwl := wd_le x q hq
      have hrl := rn_le x q
      have erx : rn x q = rn s (a + q) := by rw [← hx]; exact rn_extract s a q
      have ewx : wd x q = wd s (a + q) := by rw [← hx]; exact wd_extract s a q
      have hi2 := Lib.iterAt_heap wr W.heap.size x q (q + wd x q) hi
      have hJ2 := abides_iterAt hJ (p' := q + wd x q) HR.out.1 hi (Nat.le_refl _)
      have hk2 := keep_iterAt (x := x) (p := q + wd x q) HR.out.2 hnk
      obtain ⟨W2, hW2⟩ : ∃ W2, wr.iterAt W.heap.size x (q + wd x q) = W2 := ⟨_, rfl⟩
      rw [hW2] at hnx hi2 hJ2 hk2
      have hIr := hI.kept hk2
      have ca2 := hIr.ca
      have cb2 := hIr.cb
      clear hIr
      have wa : IntKind.i64.wrap ((a : Int) + 1 + (q : Int)) = (a : Int) + 1 + (q : Int) := by rw [IntKind.wrap_i64]; omega
      by_cases hle : b < (a : Int) + 1 + (q : Int)
      · have HE : Hid (bw s a b = done.map (rA s)) := by show _ = _; rw [HB.out, bw_stop (by omega)]; simp
        gi_wp2
        refine ⟨fun _ h => (by cases h), ?_⟩
        gi_wp2
        refine bodyPost_ret (results_none rfl _ _ _) rfl ?_
        exact ⟨⟨_, rfl⟩, .inl ⟨_, HE.out.symm, hJ2⟩⟩
      · have hlt : a + q < s.size := by omega
        have HE : Hid (bw s a b = done.map (rA s) ++ rA s ⟨a + q, hlt⟩ :: bw s (a + (q + wd x q)) b) := by
          show _ = _
          rw [HB.out, bw_at (p := a + q) (by omega) (by omega), ewx, Nat.add_assoc]; rfl
        obtain ⟨fn, tmps, assign, body, hy, hR⟩ := hY done ⟨a + q, hlt⟩ W2 hJ2 (by omega)
        dsimp only [encP] at hy
        rw [erx] at hnx
        have ea : (((a + q : Nat) : Int) + 1) = (a : Int) + 1 + (q : Int) := by omega
        rw [ea] at hy
        rw [erx] at hrl
        clear ea ewx erx
        generalize rn s (a + q) = R at hnx hy hrl
        gi_wp2
        refine hR.mono ?_
        rintro e W3 (⟨rfl, hJ5, hk5⟩ | ⟨rfl, hJx5⟩)
        · have hI5 := hI.kept (hk2.trans hk5.1)
          have hi5 := hk5.2.same _ _ hi2 rfl
          have hp5 := posOf_at hi5
          have HJ5 : Hid (J (done ++ [⟨a + q, hlt⟩]) W3 ∧ Keep Ks W W3) := ⟨hJ5, hk2.trans hk5.1⟩
          clear hJ5 hk5 hy hR hnx
          gi_wp2
          go_roundw
          case rel => exact ⟨q + wd x q, _, hi5, by simp; omega, by omega, by show _ = _; rw [HE.out]; simp, HJ5⟩
          case measure => rw [hp5, hp0]; omega
        · clear hy hR hnx
          gi_wp2
          refine bodyPost_ret (results_none rfl _ _ _) rfl ?_
          exact ⟨⟨_, rfl⟩, .inr ⟨_, ⟨bw s (a + (q + wd x q)) b, by rw [HE.out]; simp⟩, hJx5⟩⟩
    · have hnx : ∀ ty, (Instr.next (.pointer (some ⟨W.heap.size, 0, none⟩)) true ty).run Try.prog wr = .ok (.tuple #[.bool false]) wr := fun ty => Lib.run_next_end_at wr W.heap.size x q ty hi hq
      have HE : Hid (bw s a b = done.map (rA s)) := by show _ = _; rw [HB.out, bw_end (by omega)]; simp
      gi_wp2
      go_end0
      exact ⟨⟨_, rfl⟩, .inl ⟨_, HE.out.symm, HR.out.1⟩⟩
set_option maxHeartbeats 1000000 in
theorem iter_none (l X : Nat) (s : ByteArray) (a b : Int) (W : World) (Ks : Nat → Prop) (hI : It W Ks X s a b) (h : b < a) : CallsIn Fence.wide 5 Try.prog 22 #[.func (.yield l) #[] #[], .pointer (some ⟨X + 1, 0, none⟩), .pointer (some ⟨X + 2, 0, none⟩), .pointer (some ⟨X, 0, none⟩)] W fun e W' => (∃ v, e = .returned v) ∧ W' = W := by
  have ca := hI.ca
  have cb := hI.cb
  refine callsIn_of_wp Try.func22 rfl trivial ?_ rfl
  simp only [Try.ntmps22, List.size_toArray, List.length_cons, List.length_nil, Nat.reduceAdd, Nat.reduceSub, Array.replicate_succ, Array.replicate_zero, List.push_toArray, List.append_toArray, List.nil_append, List.cons_append]
  gi_wp2
  refine bodyPost_ret (results_none rfl _ _ _) rfl ?_
  exact ⟨⟨_, rfl⟩, rfl⟩
theorem iter_stops (Ks : Nat → Prop) (X : Nat) (s : ByteArray) (a : Nat) (b : Int) (hs : s.size ≤ 140737488351232) (hb : b ≤ s.size) (w : World) (hKl : ∀ g, Ks g → g < w.heap.size) (hI : It w Ks X s ((a : Int) + 1) b) :
    SeqStopsK Fence.wide 5 Try.prog 22 #[.pointer (some ⟨X + 1, 0, none⟩), .pointer (some ⟨X + 2, 0, none⟩), .pointer (some ⟨X, 0, none⟩)] (encP s) (KW Ks) (fun xs => xs.map (rA s) = bw s a b) (fun pre => pre.map (rA s) <+: bw s a b) 140737488351232 w :=
  fun l J Jx W hW hJ _ hY h0 => by
    have hI2 := hI.kept (Keep.of hW)
    by_cases ha : (a : Int) + 1 ≤ b
    · exact iter_any Ks l X s a b hs hb ha J Jx W hJ (fun g hg => Nat.lt_of_lt_of_le (hKl g hg) hW.size) hY hI2 h0
    · refine (iter_none l X s ((a : Int) + 1) b W Ks hI2 (by omega)).mono fun e W' hh => ⟨hh.1, .inl ⟨[], (bw_stop ha).symm, by rw [hh.2]; exact h0⟩⟩
theorem keepK_t {Ks : Nat → Prop} {A B C : World} (h : KW Ks A B) (k : KW Ks B C) : KW Ks A C := ⟨h.1.trans k.1, h.2.trans k.2⟩
theorem keepK_b {Ks : Nat → Prop} {w : World} (hk : ∀ g, Ks g → g < w.heap.size) (W : World) (l : Nat) (o o' : Obj) (hl : w.heap.size ≤ l) (h : W.heap[l]? = some o) (_ : o.isCells = false) (hw : o.isWalk = false) : KW Ks W (W.putObj l o') :=
  ⟨⟨rfl, rfl, rfl, by simp, fun g _ hg => World.putObj_heap_other (fun e => by have := hk g hg; omega)⟩, KeepsWalks.putObj _ h hw⟩
theorem ownFrom_of {β : Type} {B : Nat} {I : β → World → Prop} (h : ∀ s W W', I s W → Keep (fun g => g < B) W W' → I s W') : OwnFrom B I := fun s W W' row hs hg hr =>
  by
    obtain ⟨g1, g2, g3, g4, g5⟩ := hg
    exact h s W W' hs ⟨g1, g2, g3, g4, fun g hl hB => g5 g hl (fun e => by have hB' : g < B := hB; have := (hr g e.symm).1; omega)⟩
end Go.Proofs.Ytbgbhogcjaodkab

/- The walk of Len. -/
namespace Go.Proofs.Ytbgbhogcjaodkab
open Go.RowKit Go.Shelf
attribute [local go_sem] Oper.semAt_some

/-- What Len answers of the runes between two places. -/
def lenA (l : List Rn) : Int × Int := if badOf l < 0 then ((l.length : Int), 0) else (0, badOf l + 1)
def lenR (s : ByteArray) (i j : Int) : Int × Int × Int :=
  if mt s.size i < 1 ∨ (s.size : Int) + 1 < mt s.size i ∨ (s.size : Int) < mt s.size j then (0, 0, 1)
  else ((lenA (bw s ((mt s.size i).toNat - 1) (mt s.size j))).1, (lenA (bw s ((mt s.size i).toNat - 1) (mt s.size j))).2, 0)
/-- The boxes of Len: the text, three answers, the count. -/
theorem isBad_at (s : ByteArray) (x : Fin s.size) : isBad (rA s x) = bdB s x.1 := by
  unfold isBad rA bdB
  simp
theorem badOf_app (l r : List Rn) (h : 0 ≤ badOf l) : badOf (l ++ r) = badOf l := by
  unfold badOf at h ⊢
  rw [List.find?_append]
  cases hf : l.find? isBad with
  | none => rw [hf] at h; simp at h
  | some x => rfl
structure La (W : World) (S : Nat) (s : ByteArray) (x y z : Int) : Prop where
  bs : Boxed W S 9 (.string s)
  bx : Boxed W (S + 1) 3 (.int .i64 x)
  bY : Boxed W (S + 2) 3 (.int .i64 y)
  bz : Boxed W (S + 3) 23 (.int .i64 z)
theorem La.setx {W : World} {S : Nat} {s : ByteArray} {x y z : Int} (h : La W S s x y z) (n' : Int) : La (W.setCell ⟨S + 1, 0, none⟩ (.int .i64 n')) S s n' y z :=
  ⟨h.bs.other (by omega) _, h.bx.set _, h.bY.other (by omega) _, h.bz.other (by omega) _⟩
theorem La.sety {W : World} {S : Nat} {s : ByteArray} {x y z : Int} (h : La W S s x y z) (n' : Int) : La (W.setCell ⟨S + 2, 0, none⟩ (.int .i64 n')) S s x n' z :=
  ⟨h.bs.other (by omega) _, h.bx.other (by omega) _, h.bY.set _, h.bz.other (by omega) _⟩
theorem La.setz {W : World} {S : Nat} {s : ByteArray} {x y z : Int} (h : La W S s x y z) (n' : Int) : La (W.setCell ⟨S + 3, 0, none⟩ (.int .i64 n')) S s x y n' :=
  ⟨h.bs.other (by omega) _, h.bx.other (by omega) _, h.bY.other (by omega) _, h.bz.set _⟩
theorem boxed_keep {No : Nat → Prop} {W W' : World} {B : Nat} {t : TypeId} {v : Value} (h : Boxed W B t v) (k : Keep No W W') (hB : No B) : Boxed W' B t v := (k.block B h.lt hB).trans h
theorem La.kept {No : Nat → Prop} {W W' : World} {S : Nat} {s : ByteArray} {x y z : Int} (h : La W S s x y z) (k : Keep No W W') (hn : No S ∧ No (S + 1) ∧ No (S + 2) ∧ No (S + 3)) : La W' S s x y z :=
  ⟨boxed_keep h.bs k hn.1, boxed_keep h.bx k hn.2.1, boxed_keep h.bY k hn.2.2.1, boxed_keep h.bz k hn.2.2.2⟩
theorem below_set {w W : World} {p : Addr} (h : Below w.heap.size w W) (hp : w.heap.size ≤ p.block) (v : Value) : Below w.heap.size w (W.setCell p v) := h.setCell hp v
theorem La.made (w : World) (s : ByteArray) (k : Nat) : La (((((w.alloc (.cells #[.string s] 9)).alloc (.cells #[.int .i64 0] 3)).alloc (.cells #[.int .i64 0] 3)).alloc (.cells #[.int .i64 0] 23)).drewN k) w.heap.size s 0 0 0 := by
  have e1 : (w.alloc (.cells #[.string s] 9)).heap.size = w.heap.size + 1 := by simp
  have e2 : ((w.alloc (.cells #[.string s] 9)).alloc (.cells #[.int .i64 0] 3)).heap.size = w.heap.size + 2 := by simp
  have e3 : (((w.alloc (.cells #[.string s] 9)).alloc (.cells #[.int .i64 0] 3)).alloc (.cells #[.int .i64 0] 3)).heap.size = w.heap.size + 3 := by simp
  have q0 := Boxed.new w 9 (.string s)
  have q1 := Boxed.new (w.alloc (.cells #[.string s] 9)) 3 (.int .i64 0)
  have q2 := Boxed.new ((w.alloc (.cells #[.string s] 9)).alloc (.cells #[.int .i64 0] 3)) 3 (.int .i64 0)
  have q3 := Boxed.new (((w.alloc (.cells #[.string s] 9)).alloc (.cells #[.int .i64 0] 3)).alloc (.cells #[.int .i64 0] 3)) 23 (.int .i64 0)
  rw [e1] at q1
  rw [e2] at q2
  rw [e3] at q3
  exact ⟨((q0.alloc _).alloc _).alloc _, (q1.alloc _).alloc _, q2.alloc _, q3⟩
structure Lb (W : World) (S : Nat) (s : ByteArray) (x y z n : Int) : Prop where
  bs : Boxed W S 9 (.string s)
  bx : Boxed W (S + 1) 3 (.int .i64 x)
  bY : Boxed W (S + 2) 3 (.int .i64 y)
  bz : Boxed W (S + 3) 23 (.int .i64 z)
  bn : Boxed W (S + 4) 3 (.int .i64 n)
theorem Lb.kept {No : Nat → Prop} {W W' : World} {S : Nat} {s : ByteArray} {x y z n : Int} (h : Lb W S s x y z n) (k : Keep No W W') (hn : No S ∧ No (S + 1) ∧ No (S + 2) ∧ No (S + 3) ∧ No (S + 4)) : Lb W' S s x y z n :=
  ⟨boxed_keep h.bs k hn.1, boxed_keep h.bx k hn.2.1, boxed_keep h.bY k hn.2.2.1, boxed_keep h.bz k hn.2.2.2.1, boxed_keep h.bn k hn.2.2.2.2⟩
theorem Lb.setn {W : World} {S : Nat} {s : ByteArray} {x y z n : Int} (h : Lb W S s x y z n) (n' : Int) : Lb (W.setCell ⟨S + 4, 0, none⟩ (.int .i64 n')) S s x y z n' :=
  ⟨h.bs.other (by omega) _, h.bx.other (by omega) _, h.bY.other (by omega) _, h.bz.other (by omega) _, h.bn.set _⟩
theorem Lb.setx {W : World} {S : Nat} {s : ByteArray} {x y z n : Int} (h : Lb W S s x y z n) (n' : Int) : Lb (W.setCell ⟨S + 1, 0, none⟩ (.int .i64 n')) S s n' y z n :=
  ⟨h.bs.other (by omega) _, h.bx.set _, h.bY.other (by omega) _, h.bz.other (by omega) _, h.bn.other (by omega) _⟩
theorem Lb.sety {W : World} {S : Nat} {s : ByteArray} {x y z n : Int} (h : Lb W S s x y z n) (n' : Int) : Lb (W.setCell ⟨S + 2, 0, none⟩ (.int .i64 n')) S s x n' z n :=
  ⟨h.bs.other (by omega) _, h.bx.other (by omega) _, h.bY.set _, h.bz.other (by omega) _, h.bn.other (by omega) _⟩
theorem Lb.setz {W : World} {S : Nat} {s : ByteArray} {x y z n : Int} (h : Lb W S s x y z n) (n' : Int) : Lb (W.setCell ⟨S + 3, 0, none⟩ (.int .i64 n')) S s x y n' n :=
  ⟨h.bs.other (by omega) _, h.bx.other (by omega) _, h.bY.other (by omega) _, h.bz.set _, h.bn.other (by omega) _⟩
set_option maxRecDepth 100000 in
set_option maxHeartbeats 4000000 in
theorem len_in (s : ByteArray) (i j : Int) (w : World) (hs : s.size ≤ 140737488351232) (h1 : -9223372036854775808 ≤ i) (h2 : i ≤ 9223372036854775807) (h3 : -9223372036854775808 ≤ j) (h4 : j ≤ 9223372036854775807) :
    CallsIn Fence.wide 6 Try.prog 7 #[.string s, .int .i64 i, .int .i64 j] w fun e w' => e = .returned (.tuple #[.int .i64 (lenR s i j).1, .int .i64 (lenR s i j).2.1, .int .i64 (lenR s i j).2.2]) ∧ Below w.heap.size w w' := by
  have D : ∀ x : Int, (x = i ∨ x = j) → ∀ W, Calls Try.prog 14 #[.string s, .int .i64 x] W fun e w' => e = .returned (.int .i64 (mt s.size x)) ∧ w' = W := fun x hx W => meant_any s x W hs (by omega) (by omega)
  have hmt := mt_le hs h1 h2
  obtain ⟨R, hR⟩ : ∃ R, lenR s i j = R := ⟨_, rfl⟩
  rw [hR]
  unfold lenR at hR
  generalize mt s.size = M at D hmt hR
  refine callsIn_of_wp_marks Try.func7 rfl trivial ?_ rfl
  simp only [Try.ntmps7, List.size_toArray, List.length_cons, List.length_nil, Nat.reduceAdd, Nat.reduceSub, Array.replicate_succ, Array.replicate_zero, List.push_toArray, List.append_toArray, List.nil_append, List.cons_append]
  refine wpIn_wide.2 ?_
  go_wp2
  go_quiet (exact Calls.quiet_of_same (D _ (by simp) _))
  generalize hW1 : World.drewN ((((w.alloc (.cells #[.string s] 9)).alloc (.cells #[.int .i64 0] 3)).alloc (.cells #[.int .i64 0] 3)).alloc (.cells #[.int .i64 0] 23)) _ = W1
  have LA : La W1 w.heap.size s 0 0 0 := hW1 ▸ La.made w s _
  have BA : Below w.heap.size w W1 := by
    rw [← hW1]
    exact ⟨rfl, rfl, rfl, by simp [World.drewN]; omega, fun g hg => (bthen (bthen (bthen (b1 w _) (by simp) (b1 _ _)) (by simp; omega) (b1 _ _)) (by simp; omega) (b1 _ _)).block g hg⟩
  have hS1 : W1.heap.size = w.heap.size + 4 := by rw [← hW1]; simp [World.drewN]
  clear hW1
  have c0 := LA.bs.cell
  have c1 := LA.bx.cell
  have c2 := LA.bY.cell
  have c3 := LA.bz.cell
  have f1 := LA.bx.frozen
  have f2 := LA.bY.frozen
  have f3 := LA.bz.frozen
  have q2 : IntKind.i64.wrap ((s.size : Int) + 1) = (s.size : Int) + 1 := by rw [IntKind.wrap_i64]; omega
  clear D
  by_cases hE : M i < 1 ∨ (s.size : Int) + 1 < M i ∨ (s.size : Int) < M j
  · rw [if_pos hE] at hR
    subst hR
    clear hS1
    have LZ := ((LA.setx 0).sety 0).setz 1
    have BZ := below_set (p := ⟨w.heap.size + 3, 0, none⟩) (below_set (p := ⟨w.heap.size + 2, 0, none⟩) (below_set (p := ⟨w.heap.size + 1, 0, none⟩) BA (by simp) (.int .i64 0)) (by simp) (.int .i64 0)) (by simp) (.int .i64 1)
    have o0 := LZ.bx.cell
    have o1 : World.cell? _ ⟨w.heap.size + 1 + 1, 0, none⟩ = _ := LZ.bY.cell
    have o2 : World.cell? _ ⟨w.heap.size + 1 + 1 + 1, 0, none⟩ = _ := LZ.bz.cell
    have HZ : Hid (_ ∧ _ ∧ _ ∧ _) := ⟨o0, o1, o2, BZ⟩
    clear o0 o1 o2 LZ BZ
    by_cases hE1 : M i < 1
    · go_wp2
      obtain ⟨o0, o1, o2, BZ⟩ := HZ.out
      exact ⟨.tuple #[.int .i64 0, .int .i64 0, .int .i64 1], by simp [results, Try.results7, go_sem, o0, o1, o2], rfl, BZ⟩
    · by_cases hE2 : (s.size : Int) + 1 < M i
      · go_wp2
        obtain ⟨o0, o1, o2, BZ⟩ := HZ.out
        exact ⟨.tuple #[.int .i64 0, .int .i64 0, .int .i64 1], by simp [results, Try.results7, go_sem, o0, o1, o2], rfl, BZ⟩
      · have hE3 : (s.size : Int) < M j := by omega
        go_wp2
        obtain ⟨o0, o1, o2, BZ⟩ := HZ.out
        exact ⟨.tuple #[.int .i64 0, .int .i64 0, .int .i64 1], by simp [results, Try.results7, go_sem, o0, o1, o2], rfl, BZ⟩
  · rw [if_neg hE] at hR
    have hE1 : ¬ M i < 1 := by omega
    have hE2 : ¬ (s.size : Int) + 1 < M i := by omega
    have hE3 : ¬ (s.size : Int) < M j := by omega
    obtain ⟨a, ha⟩ : ∃ a : Nat, M i = (a : Int) + 1 := ⟨(M i).toNat - 1, by omega⟩
    obtain ⟨b, hb⟩ : ∃ b : Int, M j = b := ⟨_, rfl⟩
    rw [ha] at hR hE1 hE2
    rw [hb] at hR hE3
    rw [ha, hb]
    rw [show ((a : Int) + 1).toNat - 1 = a by omega] at hR
    have HS1 : Hid (W1.heap.size = w.heap.size + 4) := hS1
    have cN : (W1.alloc (.cells #[.int .i64 0] 3)).cell? ⟨w.heap.size, 0, none⟩ = some (.string s) := (LA.bs.alloc _).cell
    clear hS1 c1 c2 c3 f1 f2 f3
    go_wp2_with (go_at_call 15; refine (between_any _ _ _ _).mono ?_; rintro e w1 ⟨rfl, hw1⟩; subst w1)
    have LB0 : Lb (W1.alloc (.cells #[.int .i64 0] 3)) w.heap.size s 0 0 0 0 := by
      have q := Boxed.new W1 3 (.int .i64 0)
      rw [HS1.out] at q
      exact ⟨LA.bs.alloc _, LA.bx.alloc _, LA.bY.alloc _, LA.bz.alloc _, q⟩
    have BN : Below w.heap.size w (W1.alloc (.cells #[.int .i64 0] 3)) := bthen BA BA.size (b1 _ _)
    have hSN : (W1.alloc (.cells #[.int .i64 0] 3)).heap.size = w.heap.size + 4 + 1 := by rw [← HS1.out]; simp
    generalize W1.alloc (.cells #[.int .i64 0] 3) = WN at *
    rw [HS1.out]
    have BL : Below WN.heap.size WN (((WN.alloc (.cells #[.string s] 9)).alloc (.cells #[.int .i64 ((a : Int) + 1)] 3)).alloc (.cells #[.int .i64 b] 3)) := bthen (bthen (b1 _ _) (by simp) (b1 _ _)) (by simp; omega) (b1 _ _)
    have IL : ∀ Ks : Nat → Prop, (∀ g, WN.heap.size ≤ g → g < WN.heap.size + 3 → Ks g) → It (((WN.alloc (.cells #[.string s] 9)).alloc (.cells #[.int .i64 ((a : Int) + 1)] 3)).alloc (.cells #[.int .i64 b] 3)) Ks WN.heap.size s ((a : Int) + 1) b := fun Ks hK => by
      have e1 : (WN.alloc (.cells #[.string s] 9)).heap.size = WN.heap.size + 1 := by simp
      have e2 : ((WN.alloc (.cells #[.string s] 9)).alloc (.cells #[.int .i64 ((a : Int) + 1)] 3)).heap.size = WN.heap.size + 2 := by simp
      have q0 := Boxed.new WN 9 (.string s)
      have q1 := Boxed.new (WN.alloc (.cells #[.string s] 9)) 3 (.int .i64 ((a : Int) + 1))
      have q2 := Boxed.new ((WN.alloc (.cells #[.string s] 9)).alloc (.cells #[.int .i64 ((a : Int) + 1)] 3)) 3 (.int .i64 b)
      rw [e1] at q1
      rw [e2] at q2
      exact ⟨((q0.alloc _).alloc _).cell, (q1.alloc _).cell, q2.cell, hK _ (by omega) (by omega), hK _ (by omega) (by omega), hK _ (by omega) (by omega)⟩
    have hSL : (((WN.alloc (.cells #[.string s] 9)).alloc (.cells #[.int .i64 ((a : Int) + 1)] 3)).alloc (.cells #[.int .i64 b] 3)).heap.size = WN.heap.size + 3 := by simp
    generalize ((WN.alloc (.cells #[.string s] 9)).alloc (.cells #[.int .i64 ((a : Int) + 1)] 3)).alloc (.cells #[.int .i64 b] 3) = WL at *
    rw [hSN] at IL hSL
    have LBL : Lb WL w.heap.size s 0 0 0 0 := LB0.kept (No := fun _ => True) (Keep.of BL) ⟨trivial, trivial, trivial, trivial, trivial⟩
    have BW : Below w.heap.size w WL := bthen BN BN.size BL
    have IT := IL (fun g => g < WL.heap.size ∧ g ≠ w.heap.size + 4) (fun g q1 q2 => ⟨by omega, by omega⟩)
    have HSL : Hid (WL.heap.size = w.heap.size + 8) := by show _ = _; omega
    clear IL BL LB0 BN hSN hSL LA BA cN c0 q2 hE hE1 hE2 hmt ha hb HS1
    refine (wpIn_wide (n := 6)).1 ?_
    refine wpIn_rangeFunc_ownH (n := 6) rfl (by omega) (gf := 22) (lb := #[.pointer (some ⟨w.heap.size + 4 + 1 + 1, 0, none⟩), .pointer (some ⟨w.heap.size + 4 + 1 + 2, 0, none⟩), .pointer (some ⟨w.heap.size + 4 + 1, 0, none⟩)]) rfl trivial (enters_of Try.func22 (by kernel_rfl) rfl)
      (iter_stops (fun g => g < WL.heap.size ∧ g ≠ w.heap.size + 4) (w.heap.size + 4 + 1) s a b hs (by omega) WL (fun g q => q.1) IT) keepK_t (keepK_b (fun g q => q.1)) (Below.refl _ _) (fun _ => rfl)
      (fun pre W => badOf (pre.map (rA s)) < 0 ∧ Lb W w.heap.size s 0 0 0 pre.length ∧ Keep (fun g => g < WL.heap.size ∧ g ≠ w.heap.size + 4) WL W)
      (fun cd pre W => cd = .ret ∧ 0 ≤ badOf (pre.map (rA s)) ∧ La W w.heap.size s 0 (badOf (pre.map (rA s)) + 1) 0 ∧ Keep (fun g => g < w.heap.size) WL W)
      (ownFrom_of fun st W W' hst hk => ⟨hst.1, hst.2.1.kept hk (by have := HSL.out; exact ⟨by omega, by omega, by omega, by omega, by omega⟩), hst.2.2.trans (hk.sub (fun g q => q.1))⟩)
      (fun cd => ownFrom_of fun st W W' hst hk => ⟨hst.1, hst.2.1, hst.2.2.1.kept hk (by have := HSL.out; exact ⟨by omega, by omega, by omega, by omega⟩), hst.2.2.2.trans (hk.sub (fun g q => by have := HSL.out; omega))⟩)
      ⟨by unfold badOf; simp, LBL, Keep.refl _ _⟩
      (fun x a' W => a' = { tmps := #[.string s, .int .i64 i, .int .i64 j, .pointer (some ⟨w.heap.size, 0, none⟩), undef, undef, .pointer (some ⟨w.heap.size + 1, 0, none⟩), .pointer (some ⟨w.heap.size + 1 + 1, 0, none⟩), .pointer (some ⟨w.heap.size + 1 + 1 + 1, 0, none⟩), .int .i64 ((a : Int) + 1), .int .i64 b, .pointer (some ⟨w.heap.size + 4, 0, none⟩), .int .i64 ((x.1 : Int) + 1), .int .i32 (rn s x.1), .string s, .int .i64 i, .int .i64 ((a : Int) + 1), .string s, .int .i64 j, .int .i64 b, .int .i64 ((a : Int) + 1), .bool false, .bool false, .int .i64 ((a : Int) + 1), .string s, .int .i64 s.size, .int .i64 ((s.size : Int) + 1), .bool false, .bool false, .bool false, .int .i64 b, .string s, .int .i64 s.size, .bool false, .bool false, .string s, .int .i64 ((a : Int) + 1), .int .i64 b, (.func (.func 22) #[] #[.pointer (some ⟨w.heap.size + 4 + 1 + 1, 0, none⟩), .pointer (some ⟨w.heap.size + 4 + 1 + 2, 0, none⟩), .pointer (some ⟨w.heap.size + 4 + 1, 0, none⟩)]), .int .i64 ((x.1 : Int) + 1), .int .i32 (rn s x.1), undef, undef, undef, undef, undef, undef, undef, undef], defers := [] })
      (fun x a' => fun _ A' B' row hst hg hr => hst) ?assign ?body ?done ?stop
    case assign =>
      rintro l pre x W K hI hK
      unfold encP
      gi_wp2
      exact hK _ _ ((KeepsOthers.refl W).from _) ⟨Keep.refl _ _, KeepsWalks.refl _⟩ hI rfl
    case body =>
      rintro l pre x a' W hl _ ⟨hb0, hL, hkw⟩ rfl hlt
      have CI := fun W => CallsIn.inRound l (callsIn_wide (n := 3).2 (invalid_any s x.1 W hs x.2))
      have c0 := hL.bs.cell
      have hsn := badOf_snoc (pre.map (rA s)) (rA s x) hb0
      rw [isBad_at] at hsn
      have hrl := rn_le s x.1
      have hxl := x.2
      have e1 : (pre ++ [x]).map (rA s) = pre.map (rA s) ++ [rA s x] := by simp
      have HO : Hid (∀ w1, Below W.heap.size W w1 → KeepsOthers W w1 ∧ KeepsWalks W w1) := fun w1 hb1 => ⟨KeepsOthers.of_grownBy (grown_of_below hb1) (fun j o e => by cases e), KeepsWalks.of_grownBy (grown_of_below hb1) (fun j o e => by cases e)⟩
      cases hbd : bdB s x.1 with
      | false =>
        rw [hbd] at CI hsn
        have w1 : IntKind.i64.wrap ((pre.length : Int) + 1) = ((pre ++ [x]).length : Int) := by rw [IntKind.wrap_i64]; simp; omega
        gi_wp2_with (refine ⟨trivial, ?_⟩; gi_at_call 16; refine (CI _).mono ?_; rintro e w2 ⟨rfl, hb1⟩; have L1 := hL.kept (No := fun _ => True) (Keep.of hb1) ⟨trivial, trivial, trivial, trivial, trivial⟩; have cn := L1.bn.cell; have fn := L1.bn.frozen)
        refine ⟨((HO.out _ hb1).1.trans (KeepsOthers.setCell _ _ _)).from _, ⟨((Keep.of hb1).sub (fun g q => trivial)).set (p := ⟨w.heap.size + 4, 0, none⟩) (fun q => q.2 rfl) _, (HO.out _ hb1).2.trans (KeepsWalks.setCell _ _ _)⟩, ?_, by rw [show ((pre ++ [x]).length : Int) = (pre.length : Int) + 1 by simp]; exact L1.setn _, ?_⟩
        · rw [e1, hsn]; simp
        · exact hkw.trans (((Keep.of hb1).sub (fun g q => trivial)).set (p := ⟨w.heap.size + 4, 0, none⟩) (fun q => q.2 rfl) _)
      | true =>
        rw [hbd] at CI hsn
        gi_wp2_with (refine ⟨trivial, ?_⟩; gi_at_call 16; refine (CI _).mono ?_; rintro e w2 ⟨rfl, hb1⟩; have L1 := hL.kept (No := fun _ => True) (Keep.of hb1) ⟨trivial, trivial, trivial, trivial, trivial⟩; have c1 := L1.bx.cell; have c2 := L1.bY.cell; have c3 := L1.bz.cell; have f1 := L1.bx.frozen; have f2 := L1.bY.frozen; have f3 := L1.bz.frozen)
        have e2 : badOf ((pre ++ [x]).map (rA s)) = (x.1 : Int) := by rw [e1, hsn]; rfl
        have LZ := (((show La w2 w.heap.size s 0 0 0 from ⟨L1.bs, L1.bx, L1.bY, L1.bz⟩).setx 0).sety ((x.1 : Int) + 1)).setz 0
        refine ⟨((((HO.out _ hb1).1.trans (KeepsOthers.setCell _ _ _)).trans (KeepsOthers.setCell _ _ _)).trans (KeepsOthers.setCell _ _ _)).from _, rfl, ?_, ?_, ?_⟩
        · rw [e2]; omega
        · rw [e2]; exact LZ
        · refine (hkw.sub (fun g q => ?_)).trans ((((Keep.of hb1).set (p := ⟨w.heap.size + 1, 0, none⟩) (fun q => ?_) _).set (p := ⟨w.heap.size + 2, 0, none⟩) (fun q => ?_) _).set (p := ⟨w.heap.size + 3, 0, none⟩) (fun q => ?_) _)
          · have := HSL.out; exact ⟨by omega, by omega⟩
          · have q' : w.heap.size + 1 < w.heap.size := q; omega
          · have q' : w.heap.size + 2 < w.heap.size := q; omega
          · have q' : w.heap.size + 3 < w.heap.size := q; omega
    case done =>
      rintro D xs W hD hxs ⟨hb0, hL, hkw⟩ hK
      have c0 := hL.bn.cell
      have c1 := hL.bx.cell
      have c2 : W.cell? ⟨w.heap.size + 1 + 1, 0, none⟩ = _ := hL.bY.cell
      have c3 : W.cell? ⟨w.heap.size + 1 + 1 + 1, 0, none⟩ = _ := hL.bz.cell
      have f1 := hL.bx.frozen
      have f2 : W.frozen? ⟨w.heap.size + 1 + 1, 0, none⟩ = _ := hL.bY.frozen
      have f3 : W.frozen? ⟨w.heap.size + 1 + 1 + 1, 0, none⟩ = _ := hL.bz.frozen
      have LZ := (((show La W w.heap.size s 0 0 0 from ⟨hL.bs, hL.bx, hL.bY, hL.bz⟩).setx xs.length).sety 0).setz 0
      have kZ : Keep (fun g => g < w.heap.size) WL (((W.setCell ⟨w.heap.size + 1, 0, none⟩ (.int .i64 xs.length)).setCell ⟨w.heap.size + 2, 0, none⟩ (.int .i64 0)).setCell ⟨w.heap.size + 3, 0, none⟩ (.int .i64 0)) := by
        refine (((hkw.sub (fun g q => ?_)).set (p := ⟨w.heap.size + 1, 0, none⟩) (fun q => ?_) _).set (p := ⟨w.heap.size + 2, 0, none⟩) (fun q => ?_) _).set (p := ⟨w.heap.size + 3, 0, none⟩) (fun q => ?_) _
        · have := HSL.out; exact ⟨by omega, by omega⟩
        · have q' : w.heap.size + 1 < w.heap.size := q; omega
        · have q' : w.heap.size + 2 < w.heap.size := q; omega
        · have q' : w.heap.size + 3 < w.heap.size := q; omega
      have kO : KeepsOthers W (((W.setCell ⟨w.heap.size + 1, 0, none⟩ (.int .i64 xs.length)).setCell ⟨w.heap.size + 2, 0, none⟩ (.int .i64 0)).setCell ⟨w.heap.size + 3, 0, none⟩ (.int .i64 0)) := ((KeepsOthers.setCell _ _ _).trans (KeepsOthers.setCell _ _ _)).trans (KeepsOthers.setCell _ _ _)
      have eR : R = ((xs.length : Int), 0, 0) := by
        rw [← hR]
        unfold lenA
        rw [← hxs, if_pos hb0]
        simp
      subst eR
      have HZ : Hid (_ ∧ _ ∧ _) := ⟨LZ, kZ, kO⟩
      clear LZ kZ kO hR hb0
      go_wp2
      obtain ⟨LZ, kZ, kO⟩ := HZ.out
      have hK2 := kO.same D _ hK rfl
      refine ⟨by simp, .inl ⟨_, _, rfl, run_takeDeferred hK2, ?_⟩⟩
      have kD : Keep (fun g => g < WL.heap.size) _ (World.putObj _ D (.deferred none)) := (keepK_b (w := WL) (fun g q => q) _ D _ _ hD hK2 rfl rfl).1
      have LD := LZ.kept kD (by have := HSL.out; exact ⟨by omega, by omega, by omega, by omega⟩)
      have o0 := LD.bx.cell
      have o1 : World.cell? _ ⟨w.heap.size + 1 + 1, 0, none⟩ = _ := LD.bY.cell
      have o2 : World.cell? _ ⟨w.heap.size + 1 + 1 + 1, 0, none⟩ = _ := LD.bz.cell
      exact ⟨.tuple #[.int .i64 xs.length, .int .i64 0, .int .i64 0], by simp [results, Try.results7, go_sem, o0, o1, o2], rfl, BW.trans ((kZ.trans (kD.sub (fun g q => by have := HSL.out; have q' : g < w.heap.size := q; show g < WL.heap.size; omega))).below (by have := HSL.out; omega) (fun g q => q))⟩
    case stop =>
      rintro D cd pre W hD hpre ⟨rfl, hb0, hL, hkw⟩ hK
      have eR : R = (0, badOf (pre.map (rA s)) + 1, 0) := by
        rw [← hR]
        obtain ⟨r, hr⟩ := hpre
        have e := badOf_app (pre.map (rA s)) r hb0
        unfold lenA
        rw [← hr, e, if_neg (by omega)]
      subst eR
      gi_wp2
      refine ⟨by simp, .inl ⟨_, _, rfl, run_takeDeferred hK, ?_⟩⟩
      have kD : Keep (fun g => g < WL.heap.size) W (W.putObj D (.deferred none)) := (keepK_b (w := WL) (fun g q => q) _ D _ _ hD hK rfl rfl).1
      have LD := hL.kept kD (by have := HSL.out; exact ⟨by omega, by omega, by omega, by omega⟩)
      have o0 := LD.bx.cell
      have o1 : World.cell? _ ⟨w.heap.size + 1 + 1, 0, none⟩ = _ := LD.bY.cell
      have o2 : World.cell? _ ⟨w.heap.size + 1 + 1 + 1, 0, none⟩ = _ := LD.bz.cell
      exact ⟨.tuple #[.int .i64 0, .int .i64 (badOf (pre.map (rA s)) + 1), .int .i64 0], by simp [results, Try.results7, go_sem, o0, o1, o2], rfl, BW.trans ((hkw.trans (kD.sub (fun g q => by have := HSL.out; have q' : g < w.heap.size := q; show g < WL.heap.size; omega))).below (by have := HSL.out; omega) (fun g q => q))⟩
theorem len_any (s : ByteArray) (i j : Int) (w : World) (hs : s.size ≤ 140737488351232) (h1 : -9223372036854775808 ≤ i) (h2 : i ≤ 9223372036854775807) (h3 : -9223372036854775808 ≤ j) (h4 : j ≤ 9223372036854775807) :
    Calls Try.prog 7 #[.string s, .int .i64 i, .int .i64 j] w fun e w' => e = .returned (.tuple #[.int .i64 (lenR s i j).1, .int .i64 (lenR s i j).2.1, .int .i64 (lenR s i j).2.2]) ∧ Below w.heap.size w w' := callsIn_wide.1 (len_in s i j w hs h1 h2 h3 h4)
end Go.Proofs.Ytbgbhogcjaodkab
