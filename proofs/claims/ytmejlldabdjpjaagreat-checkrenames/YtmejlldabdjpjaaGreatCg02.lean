/- The walk of escaped: what an escape stands for, by its first byte. -/
import Derived.Test.YtmejlldabdjpjaaGreatCg01
import Derived.Deep.RegionHeld3
import Derived.Deep.AppendLies
import Derived.OwnWalk
import Derived.Laws.Pointers
namespace Go.Proofs.YtmejlldabdjpjaaGreat
open Go.RowKit
theorem beq_t {c n : Nat} (h : c = n) : (((c : Nat) : Int) == (n : Int)) = true := by simp [h]
theorem beq_f {c n : Nat} (h : ¬ c = n) : (((c : Nat) : Int) == (n : Int)) = false := by simp; omega
set_option maxHeartbeats 4000000 in
theorem escaped_any (s : ByteArray) (c : UInt8) (u : List UInt8) (w : World) (hs : s.size ≤ maxLen) (hl : s.data.toList = c :: u) : Calls Tryz.prog 157 #[.string s] w fun e w' => e = .returned (ansE (esc (c :: u))) ∧ Below w.heap.size w w' := by
  have hs' := hs
  unfold maxLen at hs'
  have h0 : 0 < s.size := by
    have := congrArg List.length hl
    rw [Array.length_toList] at this
    have h2 : s.data.size = s.size := rfl
    simp at this; omega
  have hc : s[0] = c := by
    have h := head_at s h0
    rw [hl] at h; exact h.symm
  have hx1 : s.extract 0 1 = ⟨#[c]⟩ := by
    apply ByteArray.ext
    apply Array.toList_inj.1
    have : (s.extract 0 1).data.toList = s.data.toList.take 1 := by simp
    rw [this, hl]; rfl
  have C1 := fun w => hexa_any s w hs
  rw [hl, List.drop_succ_cons, List.drop_zero] at C1
  have C2 := fun (h : c.toNat = 117) w => codePoint_any s u w hs (by rw [hl]; congr 1; exact (toN c 117 (by omega)).1 h)
  have C3 := fun w => decimal_any s w hs
  rw [hl] at C3
  have hcn : s[0].toNat = c.toNat := by rw [hc]
  obtain ⟨n, hn⟩ : ∃ n, s[0].toNat = n := ⟨_, rfl⟩
  rw [hn] at hcn
  simp only [esc]
  unfold ansE
  rw [← hcn] at C2 ⊢
  clear hl hc hcn
  by_cases a1 : n = 110
  · have b1 := beq_t a1
    rw [if_pos a1]
    clear a1 C1 C2 C3
    go_enter Tryz.func157, Tryz.ntmps157
    go_wp2
    go_ret2
    exact ⟨rfl, Below.refl _ _⟩
  have b1 := beq_f a1
  rw [if_neg a1]
  by_cases a2 : n = 116
  · have b2 := beq_t a2
    rw [if_pos a2]
    clear a1 a2 C1 C2 C3
    go_enter Tryz.func157, Tryz.ntmps157
    go_wp2
    go_ret2
    exact ⟨rfl, Below.refl _ _⟩
  have b2 := beq_f a2
  rw [if_neg a2]
  by_cases a3 : n = 114
  · have b3 := beq_t a3
    rw [if_pos a3]
    clear a1 a2 a3 C1 C2 C3
    go_enter Tryz.func157, Tryz.ntmps157
    go_wp2
    go_ret2
    exact ⟨rfl, Below.refl _ _⟩
  have b3 := beq_f a3
  rw [if_neg a3]
  by_cases a4 : n = 92
  · have b4 := beq_t a4
    rw [if_pos (.inl a4)]
    clear a1 a2 a3 a4 C1 C2 C3
    go_enter Tryz.func157, Tryz.ntmps157
    go_wp2
    go_ret2
    exact ⟨rfl, Below.refl _ _⟩
  have b4 := beq_f a4
  by_cases a5 : n = 34
  · have b5 := beq_t a5
    rw [if_pos (.inr (.inl a5))]
    clear a1 a2 a3 a4 a5 C1 C2 C3
    go_enter Tryz.func157, Tryz.ntmps157
    go_wp2
    go_ret2
    exact ⟨rfl, Below.refl _ _⟩
  have b5 := beq_f a5
  by_cases a6 : n = 39
  · have b6 := beq_t a6
    rw [if_pos (.inr (.inr a6))]
    clear a1 a2 a3 a4 a5 a6 C1 C2 C3
    go_enter Tryz.func157, Tryz.ntmps157
    go_wp2
    go_ret2
    exact ⟨rfl, Below.refl _ _⟩
  have b6 := beq_f a6
  rw [if_neg (by omega)]
  by_cases a7 : n = 120
  · have b7 := beq_t a7
    rw [if_pos a7]
    unfold ansE at C1
    clear a1 a2 a3 a4 a5 a6 a7 C2 C3
    go_enter Tryz.func157, Tryz.ntmps157
    go_wp2_with (go_at_call 166; refine (C1 _).mono ?_; rintro e w1 ⟨rfl, hb⟩)
    go_ret2
    exact ⟨rfl, hb⟩
  have b7 := beq_f a7
  rw [if_neg a7]
  by_cases a8 : n = 117
  · have b8 := beq_t a8
    rw [if_pos a8]
    have C2' := C2 a8
    unfold ansE at C2'
    clear a1 a2 a3 a4 a5 a6 a7 a8 C1 C2 C3
    go_enter Tryz.func157, Tryz.ntmps157
    go_wp2_with (go_at_call 167; refine (C2' _).mono ?_; rintro e w1 ⟨rfl, hb⟩)
    go_ret2
    exact ⟨rfl, hb⟩
  have b8 := beq_f a8
  rw [if_neg a8]
  unfold ansE at C3
  clear a1 a2 a3 a4 a5 a6 a7 a8 C1 C2
  go_enter Tryz.func157, Tryz.ntmps157
  go_wp2_with (go_at_call 168; refine (C3 _).mono ?_; rintro e w1 ⟨rfl, hb⟩)
  go_ret2
  exact ⟨rfl, hb⟩
end Go.Proofs.YtmejlldabdjpjaaGreat

/- The scanner in memory: its text, its tokens; what a call leaves; the walk of add. -/
namespace Go.Proofs.YtmejlldabdjpjaaGreat
open Go.RowKit
set_option maxHeartbeats 400000 in
theorem clone_any (s : ByteArray) (w : World) (h : s.size ≤ 281474976710656) : Calls Tryz.prog 120 #[.string s] w fun e w' => e = .returned (.string s) ∧ Below w.heap.size w w' := by
  go_enter Tryz.func120, Tryz.ntmps120
  go_wp2_with (go_at_call 148; refine (Tryz.stringslite_Clone _ _ h).mono ?_; rintro e w1 ⟨rfl, hb⟩)
  go_ret
  exact ⟨rfl, hb⟩
/-- A call of a Go function at a step of a region that draws its order. -/
theorem step_go {ops : Array Oper} {o : Oper} {ac : Act} {K : Act → World → Prop} {Q : Exit → Act → World → Prop} {E : Prop} {W : World} (hgd : o.guard = none) (f : FuncId) (xs : Array Operand) (ats : Array TypeId)
    (ho : o.op = .call { callee := .value (.func f), args := xs, argTypes := ats }) (args : Array Value) (hx : #[] ++ xs.map ac.eval ++ #[] = args) (eg : ∀ args w, (callFunc f args).run Tryz.prog w = .ok (.enter f args) w)
    {R : Ending → World → Prop} (C : Calls Tryz.prog f args W R) (v : Value) (hv : ∀ e w', R e w' → e = .returned v) (hK : ∀ w', R (.returned v) w' → K (ac.put o.dst v) w') :
    if Region.wanted o (yielded ops ac.tmps) = true then Oper.wp Tryz.prog o ac W K Q else E := by
  have hw : Region.wanted o (yielded ops ac.tmps) = true := by simp [Region.wanted, hgd]
  rw [if_pos hw]
  obtain ⟨dst, op, ty, pos, after, guard⟩ := o
  simp only at ho
  subst ho
  unfold Oper.wp
  rw [execOp_call_go, hx, eg, Oper.upon_enter]
  refine C.mono fun e w' h => ?_
  obtain rfl := hv e w' h
  exact hK w' h
theorem enters45 : ∀ args w, (callFunc 120 args).run Tryz.prog w = .ok (.enter 120 args) w := enters_of Tryz.func120 (by kernel_rfl) rfl
/-- A token's cells. -/
def cellT (t : Tok) : List Value := [.int .i64 t.k, .string ⟨t.t.toArray⟩, .int .i64 t.v, .int .i64 t.p]
def cellsT (l : List Tok) : List Value := l.flatMap cellT
theorem cellsT_snoc (l : List Tok) (t : Tok) : cellsT (l ++ [t]) = cellsT l ++ cellT t := by simp [cellsT]
theorem own_below {w w' : World} {base : Nat} {e : TypeId} {size : Nat} {v : Value} {n : Nat} {xs : List Value} (h : w.ownsRow base e size v n xs) (hb : Below w.heap.size w w') : w'.ownsRow base e size v n xs := by
  refine ⟨h.1, ?_⟩
  rcases h.2 with h | ⟨g, cap, cur, h1, h2, h3, r⟩
  · exact .inl h
  · refine .inr ⟨g, cap, cur, h1, h2, ?_, r⟩
    have hg : g < w.heap.size := by
      rcases Nat.lt_or_ge g w.heap.size with hl | hl
      · exact hl
      · rw [Array.getElem?_eq_none hl] at h3; cases h3
    rw [hb.block g hg]; exact h3
/-- What a call keeps: every block below B but b. -/
structure Kp (b B : Nat) (W W' : World) : Prop where
  os : W'.os = W.os
  tape : W'.tape = W.tape
  output : W'.output = W.output
  size : W.heap.size ≤ W'.heap.size
  block : ∀ k, k < B → k ≠ b → W'.heap[k]? = W.heap[k]?
theorem Kp.refl (b B : Nat) (W : World) : Kp b B W W := ⟨rfl, rfl, rfl, Nat.le_refl _, fun _ _ _ => rfl⟩
theorem Kp.trans {b B : Nat} {x y z : World} (h : Kp b B x y) (k : Kp b B y z) : Kp b B x z :=
  ⟨k.os.trans h.os, k.tape.trans h.tape, k.output.trans h.output, Nat.le_trans h.size k.size, fun i hi hn => (k.block i hi hn).trans (h.block i hi hn)⟩
theorem Kp.of_below {b B : Nat} {x y : World} (h : Below x.heap.size x y) (hB : B ≤ x.heap.size) : Kp b B x y :=
  ⟨h.os, h.tape, h.output, h.size, fun k hk _ => h.block k (by omega)⟩
theorem Kp.below {b B : Nat} {x y : World} (h : Kp b B x y) (hb : b ≤ B) : Below b x y :=
  ⟨h.os, h.tape, h.output, h.size, fun k hk => h.block k (by omega) (by omega)⟩
theorem Kp.grown {b B : Nat} {a w w' : World} {row : Option Nat} (h : Kp b B a w) (hg : w.grownBy w' row) (hB : B ≤ w.heap.size) (hr : ∀ k, row = some k → B ≤ k) : Kp b B a w' := by
  have h2 : Below B w w' := (Below.refl B w).grown hg hB hr
  exact h.trans ⟨h2.os, h2.tape, h2.output, h2.size, fun k hk _ => h2.block k hk⟩
theorem Kp.alloc {b B : Nat} {a w : World} (h : Kp b B a w) (hB : B ≤ w.heap.size) (o : Obj) : Kp b B a (w.alloc o) := by
  have h2 : Below B w (w.alloc o) := (Below.refl B w).alloc hB o
  exact h.trans ⟨h2.os, h2.tape, h2.output, h2.size, fun k hk _ => h2.block k hk⟩
theorem Kp.drew {b B : Nat} {a w : World} (h : Kp b B a w) : Kp b B a w.drew := ⟨h.os, h.tape, h.output, h.size, h.block⟩
theorem Kp.setCell {b B o : Nat} {a w : World} (h : Kp b B a w) (u : Value) : Kp b B a (w.setCell ⟨b, o, none⟩ u) :=
  h.trans ⟨rfl, rfl, rfl, by simp, fun k _ hk => Below.heap_setCell w _ u k hk⟩
/-- The scanner at block b: its text, its tokens (a row of its own from block B on). -/
structure SC (b B : Nat) (s : ByteArray) (ts : List Tok) (W : World) : Prop where
  src : W.cell? ⟨b, 0, none⟩ = some (.string s)
  tok : ∃ v, W.cell? ⟨b, 1, none⟩ = some v ∧ W.ownsRow B 86 4 v ts.length (cellsT ts)
  free : W.frozen? ⟨b, 1, none⟩ = false
  lt : b < B ∧ B ≤ W.heap.size
theorem SC.below {b B : Nat} {s : ByteArray} {ts : List Tok} {W W' : World} (h : SC b B s ts W) (hb : Below W.heap.size W W') : SC b B s ts W' := by
  have hl : b < W.heap.size := by have := h.lt; omega
  obtain ⟨v, h1, h2⟩ := h.tok
  exact ⟨(hb.cell hl).trans h.src, ⟨v, (hb.cell hl).trans h1, own_below h2 hb⟩, (hb.frozen hl).trans h.free, h.lt.1, Nat.le_trans h.lt.2 hb.size⟩
theorem SC.iterAt {b B k : Nat} {s x : ByteArray} {p p' : Nat} {ts : List Tok} {W : World} (h : SC b B s ts W) (hk : W.heap[k]? = some (.stringIter x p)) (hb : k ≠ b) : SC b B s ts (W.iterAt k x p') := by
  obtain ⟨v, h1, h2⟩ := h.tok
  have hoth : ∀ j, j ≠ k → (W.iterAt k x p').heap[j]? = W.heap[j]? := fun j hj => Lib.iterAt_other W k j x p' hj
  refine ⟨(World.cell?_of_block (hoth b (Ne.symm hb))).trans h.src, ⟨v, (World.cell?_of_block (hoth b (Ne.symm hb))).trans h1, h2.1, ?_⟩, (World.frozen?_of_block (hoth b (Ne.symm hb))).trans h.free, h.lt.1, by rw [Lib.iterAt_size]; exact h.lt.2⟩
  rcases h2.2 with h2 | ⟨g, cap, cur, g1, g2, g3, r⟩
  · exact .inl h2
  · refine .inr ⟨g, cap, cur, g1, g2, ?_, r⟩
    rw [hoth g (fun e => by rw [e, hk] at g3; cases g3)]; exact g3
theorem Tryz.info86 : (Tryz.prog.info? 86).map (fun i => (i.zero, i.size, i.bytes)) = some (some (.agg #[.int .i64 0, .string ⟨#[]⟩, .int .i64 0, .int .i64 0]), 4, 40) := by kernel_rfl
theorem SC.added {b B n : Nat} {s : ByteArray} {ts : List Tok} {t : Tok} {W w : World} {v v' : Value} (h : SC b B s ts W) (K : Kp b B W w) (hs : w.cell? ⟨b, 0, none⟩ = some (.string s)) (hv : w.cell? ⟨b, 1, none⟩ = some v) (hf : w.frozen? ⟨b, 1, none⟩ = false)
    (hn : n = (ts ++ [t]).length) (hown : w.ownsRow B 86 4 v' n (cellsT ts ++ cellT t)) : SC b B s (ts ++ [t]) (w.setCell ⟨b, 1, none⟩ v') ∧ Kp b B W (w.setCell ⟨b, 1, none⟩ v') := by
  subst hn
  refine ⟨⟨?_, ⟨v', World.cell?_setCell_same _ _ _ hv, ?_⟩, ?_, h.lt.1, ?_⟩, K.setCell _⟩
  · rw [World.cell?_setCell_other _ _ _ _ (fun e => by injection e with e1 e2; cases e2)]; exact hs
  · rw [cellsT_snoc]; exact ownsRow_setCell_below hown (by exact h.lt.1) _
  · simpa using hf
  · rw [size_set]; exact Nat.le_trans h.lt.2 K.size
theorem Kp.undrew {b B : Nat} {a w : World} (h : Kp b B a.drew w) : Kp b B a w := ⟨h.os, h.tape, h.output, h.size, h.block⟩
set_option maxRecDepth 100000 in
set_option maxHeartbeats 3200000 in
theorem add_any (b B : Nat) (s : ByteArray) (ts : List Tok) (W : World) (h : SC b B s ts W) (k n : Int) (p q : Nat) (hp : p ≤ q) (hq : q ≤ s.size) (hs : s.size ≤ 20000) (hn : ts.length ≤ 20000) :
    Calls Tryz.prog 86 #[.pointer (some ⟨b, 0, none⟩), .int .i64 k, .int .i64 p, .int .i64 q, .int .i64 n] W fun e W' => e = .returned (.tuple #[]) ∧ SC b B s (ts ++ [⟨k, (s.data.toList.drop p).take (q - p), n, p⟩]) W' ∧ Kp b B W W' := by
  obtain ⟨i0, hi0, hz0, hz1, hz2⟩ := info_parts Tryz.info86
  obtain ⟨v, hv, hown⟩ := h.tok
  obtain ⟨a0, c0, rfl⟩ := slice_shape hown
  have hsrc := h.src
  have hfr := h.free
  obtain ⟨hbB, hBW⟩ := h.lt
  have hlt : b < W.heap.size := by omega
  have hx : Hid (s.extract p q = ⟨((s.data.toList.drop p).take (q - p)).toArray⟩) := by
    apply ByteArray.ext
    apply Array.toList_inj.1
    simp
  have hxz : (s.extract p q).size ≤ 281474976710656 := by rw [ByteArray.size_extract]; omega
  have p0 : (0 : Int) ≤ (p : Int) := Int.natCast_nonneg _
  have p1 : (p : Int) ≤ (q : Int) := by omega
  have p2 : (q : Int) ≤ (s.size : Int) := by omega
  have hne : some b ≠ (Value.slice a0 ts.length c0).ownBlock := fun e => by have := (hown.lt b e.symm).1; omega
  have hrow : ∀ j, (Value.slice a0 ts.length c0).ownBlock = some j → B ≤ j := fun j e => (hown.lt j e).1
  go_enter Tryz.func86, Tryz.ntmps86
  go_wp2_with fail
  go_region_law
    (first
      | (refine step_go (by rfl) 120 _ _ (by rfl) _ (by simp [Act.eval, Act.put]) enters45 (clone_any _ _ hxz) (.string (s.extract p q)) (fun e w' h => h.1) ?_; rintro w1 ⟨_, hb1⟩; have hown0' : w1.ownsRow B 86 4 (.slice a0 ts.length c0) ts.length (cellsT ts) := (by first | exact own_below hown hb1 | exact own_below hown.drew hb1); have hsz1 := hb1.size; have hs1a := fun o => alloc_cell (W := w1) (b := b) (by exact Nat.lt_of_lt_of_le hlt hsz1) ((hb1.cell (by exact hlt)).trans hsrc) o; have hv1 : w1.cell? ⟨b, 1, none⟩ = some (.slice a0 ts.length c0) := (hb1.cell (by exact hlt)).trans hv; have hf1 : w1.frozen? ⟨b, 1, none⟩ = false := (hb1.frozen (by exact hlt)).trans hfr; have hv1a := fun o => alloc_cell (W := w1) (b := b) (by exact Nat.lt_of_lt_of_le hlt hsz1) hv1 o; have hf1a := fun o => alloc_frozen (W := w1) (b := b) (by exact Nat.lt_of_lt_of_le hlt hsz1) hf1 o; try simp at hsz1)
      | (have hown0 := hown0'; refine step_append_lies _ (by rfl) _ _ _ (by rfl) B 86 i0 _ 4 40 Tryz.underlying77 hi0 hz0 hz1 hz2 rfl (by omega) (.slice a0 ts.length c0) ts.length (cellsT ts) (by rfl) (by first | exact (hown0.alloc _).drew | exact hown0.alloc _)
          ⟨w1.heap.size, 0, none⟩ 1 1 [.int .i64 k, .string (s.extract p q), .int .i64 n, .int .i64 p] (by rfl) (by rfl) (World.news_of_block (cs := #[.int .i64 k, .string (s.extract p q), .int .i64 n, .int .i64 p]) (t := 86) (fr := (0, 0)) (heap_alloc_new w1 _)) (by simp [Value.oneCell'])
          (by omega) (by unfold maxLen; omega) (by omega) (by simp; omega) (w1.heap.size + 1) (by simp) ?_; intro gg cap w2 hown1 hgrow hat hlt2; have hs2 : w2.cell? ⟨b, 0, none⟩ = some (.string s) := (hgrow.cell_far ⟨b, 0, none⟩ (by simp; omega) hne).trans (hs1a _); have hv2 : w2.cell? ⟨b, 1, none⟩ = some (.slice a0 ts.length c0) := (hgrow.cell_far ⟨b, 1, none⟩ (by simp; omega) hne).trans (hv1a _); have hf2 : w2.frozen? ⟨b, 1, none⟩ = false := (hgrow.frozen_far ⟨b, 1, none⟩ (by simp; omega) hne).trans (hf1a _)))
  all_goals
    go_wp2
    go_end0
    have K0 : Kp b B W w1 := (Kp.of_below (b := b) (B := B) hb1 (by exact hBW)).undrew
    have K2 : Kp b B W w2 := (K0.alloc (by omega) _).grown hgrow (by simp; omega) hrow
    rw [hx.out] at hown1
    exact ⟨rfl, h.added K2 hs2 hv2 hf2 (by simp) hown1⟩
end Go.Proofs.YtmejlldabdjpjaaGreat

/- Trees in memory: the cells of a row of trees, a tree as a value, a row of trees that grows by append. -/
namespace Go.Proofs.YtmejlldabdjpjaaGreat
open Go.RowKit
theorem own_keep {w w' : World} {base : Nat} {e : TypeId} {size : Nat} {v : Value} {n : Nat} {xs : List Value} (h : w.ownsRow base e size v n xs) (hb : ∀ g, v.ownBlock = some g → w'.heap[g]? = w.heap[g]?) : w'.ownsRow base e size v n xs := by
  refine ⟨h.1, ?_⟩
  rcases h.2 with h | ⟨g, cap, cur, rfl, h2, h3, r⟩
  · exact .inl h
  · exact .inr ⟨g, cap, cur, rfl, h2, by rw [hb g rfl]; exact h3, r⟩
/-- The cells of a row of trees; all their kids lie in blocks of P. -/
inductive KF (E : TypeId) (w : World) (P : Nat → Prop) : List Value → F → Prop
  | nil : KF E w P [] .nil
  | cons {k : Int} {t : List UInt8} {n p : Int} {v : Value} {xs rest : List Value} {ks r : F} (own : w.ownsRow 0 E 5 v ks.len xs) (hP : ∀ g, v.ownBlock = some g → P g) (hk : KF E w P xs ks) (hr : KF E w P rest r) :
      KF E w P (.int .i64 k :: .string ⟨t.toArray⟩ :: .int .i64 n :: .int .i64 p :: v :: rest) (.cons k t n p ks r)
section
variable {E : TypeId} {w w' : World} {P Q : Nat → Prop} {xs ys : List Value} {f g : F}
theorem KF.keep (h : KF E w P xs f) (hb : ∀ g, P g → g < w.heap.size → w'.heap[g]? = w.heap[g]?) : KF E w' P xs f := by
  induction h with
  | nil => exact .nil
  | cons own hP _ _ i1 i2 => exact .cons (own_keep own fun g hg => hb g (hP g hg) (own.lt g hg).2) hP i1 i2
theorem KF.mono (h : KF E w P xs f) (hb : ∀ g, P g → g < w.heap.size → Q g) : KF E w Q xs f := by
  induction h with
  | nil => exact .nil
  | cons own hP _ _ i1 i2 => exact .cons own (fun g hg => hb g (hP g hg) (own.lt g hg).2) i1 i2
theorem KF.app (h : KF E w P xs f) (k : KF E w P ys g) : KF E w P (xs ++ ys) (f.app g) := by
  induction h with
  | nil => exact k
  | cons own hP h1 _ _ i2 => exact .cons own hP h1 i2
theorem KF.len (h : KF E w P xs f) : xs.length = f.len * 5 := by
  induction h with
  | nil => rfl
  | cons own hP h1 _ _ i2 => simp only [List.length_cons, F.len, i2]; omega
end
/-- A tree as a value; its kids lie in blocks of P. -/
structure TN (E : TypeId) (w : World) (P : Nat → Prop) (k : Int) (t : List UInt8) (n p : Int) (v : Value) (ks : F) : Prop where
  kf : KF E w P [.int .i64 k, .string ⟨t.toArray⟩, .int .i64 n, .int .i64 p, v] (one k t n p ks)
theorem TN.out {E : TypeId} {w : World} {P : Nat → Prop} {k : Int} {t : List UInt8} {n p : Int} {v : Value} {ks : F} (h : TN E w P k t n p v ks) : (∀ g, v.ownBlock = some g → P g) ∧ ∃ xs, w.ownsRow 0 E 5 v ks.len xs ∧ KF E w P xs ks := by
  have h := h.kf
  unfold one at h
  cases h with
  | cons own hP hk hr => exact ⟨hP, _, own, hk⟩
theorem TN.keep {E : TypeId} {w w' : World} {P : Nat → Prop} {k : Int} {t : List UInt8} {n p : Int} {v : Value} {ks : F} (h : TN E w P k t n p v ks) (hb : ∀ g, P g → g < w.heap.size → w'.heap[g]? = w.heap[g]?) : TN E w' P k t n p v ks := ⟨h.kf.keep hb⟩
theorem TN.mono {E : TypeId} {w : World} {P Q : Nat → Prop} {k : Int} {t : List UInt8} {n p : Int} {v : Value} {ks : F} (h : TN E w P k t n p v ks) (hb : ∀ g, P g → g < w.heap.size → Q g) : TN E w Q k t n p v ks := ⟨h.kf.mono hb⟩
theorem TN.leaf (E : TypeId) (w : World) (P : Nat → Prop) (k : Int) (t : List UInt8) (n p : Int) : TN E w P k t n p (.slice none 0 0) .nil :=
  ⟨.cons (World.ownsRow_nil _ _ _ _) (fun g hg => by simp [Value.ownBlock] at hg) .nil .nil⟩
/-- A row of trees that grows: its own block is of P, and so are the kids' blocks, which are others. -/
structure KL (E : TypeId) (P : Nat → Prop) (w : World) (v : Value) (f : F) : Prop where
  out : ∃ xs, w.ownsRow 0 E 5 v f.len xs ∧ (∀ g, v.ownBlock = some g → P g) ∧ KF E w (fun g => P g ∧ some g ≠ v.ownBlock) xs f
theorem KL.nil (E : TypeId) (P : Nat → Prop) (w : World) : KL E P w (.slice none 0 0) .nil := ⟨[], World.ownsRow_nil _ _ _ _, fun g hg => by simp [Value.ownBlock] at hg, .nil⟩
theorem KL.keep {E : TypeId} {P : Nat → Prop} {w w' : World} {v : Value} {f : F} (h : KL E P w v f) (hb : ∀ g, P g → g < w.heap.size → w'.heap[g]? = w.heap[g]?) : KL E P w' v f := by
  obtain ⟨xs, h1, h2, h3⟩ := h.out
  exact ⟨xs, own_keep h1 fun g hg => hb g (h2 g hg) (h1.lt g hg).2, h2, h3.keep fun g hg hl => hb g hg.1 hl⟩
theorem KL.node {E : TypeId} {P : Nat → Prop} {w : World} {v : Value} {f : F} (h : KL E P w v f) (k : Int) (t : List UInt8) (n p : Int) : TN E w P k t n p v f := by
  obtain ⟨xs, h1, h2, h3⟩ := h.out
  exact ⟨.cons h1 h2 (h3.mono fun g hg _ => hg.1) .nil⟩
/-- Behind an append. -/
theorem KL.snoc {E : TypeId} {P : Nat → Prop} {g c : Nat} {w w' : World} {v : Value} {f n : F} {xs ys : List Value} (h1 : ∀ g, v.ownBlock = some g → P g) (h2 : KF E w (fun g => P g ∧ some g ≠ v.ownBlock) xs f)
    (h3 : KF E w (fun g => P g ∧ some g ≠ v.ownBlock) ys n) (own : w'.ownsRow 0 E 5 (.slice (some ⟨g, 0, none⟩) (f.len + n.len) c) (f.len + n.len) (xs ++ ys))
    (hg : ∀ k, k < w.heap.size → some k ≠ v.ownBlock → w'.heap[k]? = w.heap[k]?) (hnew : ∀ x, w.heap.size ≤ x → P x) (hat : v.ownBlock = some g ∨ w.heap.size ≤ g) : KL E P w' (.slice (some ⟨g, 0, none⟩) (f.len + n.len) c) (f.app n) := by
  have h4 := ((h2.app h3).mono (Q := fun k => (P k ∧ some k ≠ v.ownBlock) ∧ k < w.heap.size) fun k hk hl => ⟨hk, hl⟩).keep (w' := w') fun k hk _ => hg k hk.2 hk.1.2
  refine ⟨xs ++ ys, by rw [F.len_app]; exact own, fun x hx => ?_, h4.mono fun k hk _ => ⟨hk.1.1, ?_⟩⟩
  · have e2 : g = x := by simpa [Value.ownBlock] using hx
    subst e2
    exact hat.elim (h1 g) (hnew g)
  · rcases hat with hat | hat
    · exact fun e => hk.1.2 (e.trans hat.symm)
    · intro e
      have e2 : k = g := by simpa [Value.ownBlock] using e
      have := hk.2
      omega
/-- A row that a composite lays. -/
theorem KL.made {E : TypeId} {P : Nat → Prop} {n : Nat} {w : World} {cur : Array Value} {f : F} (h : KF E w P cur.toList f) (hm : P w.heap.size) (hn : f.len = n) (hl : n ≤ maxLen) : KL E P (w.alloc (.cells cur E)) (.slice (some ⟨w.heap.size, 0, none⟩) n n) f := by
  subst hn
  have hs : cur.size = f.len * 5 := by rw [← h.len]; simp
  refine ⟨cur.toList, ⟨by simpa using hs, .inr ⟨w.heap.size, f.len, cur, rfl, Nat.zero_le _, heap_alloc_new w _, Nat.le_refl _, hl, hs, by rw [← hs]; exact List.take_of_length_le (by simp)⟩⟩, fun g hg => ?_, ?_⟩
  · have e2 : w.heap.size = g := by simpa [Value.ownBlock] using hg
    rw [← e2]; exact hm
  have h4 := (h.mono (Q := fun k => P k ∧ k < w.heap.size) fun k hk hl => ⟨hk, hl⟩).keep (w' := w.alloc (.cells cur E)) fun k hk _ => (World.grownBy_alloc w _ none).block k hk.2 (by simp)
  refine h4.mono fun k hk _ => ⟨hk.1, fun e => ?_⟩
  have e2 : k = w.heap.size := by simpa [Value.ownBlock] using e
  have := hk.2
  omega
end Go.Proofs.YtmejlldabdjpjaaGreat

/- The parser in memory: its tokens, its place; what a call leaves; the walks of its small functions. -/
namespace Go.Proofs.YtmejlldabdjpjaaGreat
open Go.RowKit
/-- What a call keeps: every block that there was but those of S. -/
structure Ky (S : Nat → Prop) (W W' : World) : Prop where
  os : W'.os = W.os
  tape : W'.tape = W.tape
  output : W'.output = W.output
  size : W.heap.size ≤ W'.heap.size
  block : ∀ k, k < W.heap.size → ¬ S k → W'.heap[k]? = W.heap[k]?
theorem Ky.refl (S : Nat → Prop) (W : World) : Ky S W W := ⟨rfl, rfl, rfl, Nat.le_refl _, fun _ _ _ => rfl⟩
theorem Ky.trans {S : Nat → Prop} {x y z : World} (h : Ky S x y) (k : Ky S y z) : Ky S x z :=
  ⟨k.os.trans h.os, k.tape.trans h.tape, k.output.trans h.output, Nat.le_trans h.size k.size, fun i hi hn => (k.block i (Nat.lt_of_lt_of_le hi h.size) hn).trans (h.block i hi hn)⟩
theorem Ky.mono {S S' : Nat → Prop} {x y : World} (h : Ky S x y) (hs : ∀ k, k < x.heap.size → S k → S' k) : Ky S' x y := ⟨h.os, h.tape, h.output, h.size, fun k hk hn => h.block k hk fun e => hn (hs k hk e)⟩
theorem Ky.of_below {S : Nat → Prop} {x y : World} (h : Below x.heap.size x y) : Ky S x y := ⟨h.os, h.tape, h.output, h.size, fun k hk _ => h.block k hk⟩
theorem Ky.alloc {S : Nat → Prop} {a w : World} (h : Ky S a w) (o : Obj) : Ky S a (w.alloc o) := h.trans (.of_below ((Below.refl _ w).alloc (Nat.le_refl _) o))
theorem Ky.drew {S : Nat → Prop} {a w : World} (h : Ky S a w) : Ky S a w.drew := ⟨h.os, h.tape, h.output, h.size, h.block⟩
theorem Ky.setCell {S : Nat → Prop} {b o : Nat} {a w : World} (h : Ky S a w) (hb : S b) (u : Value) : Ky S a (w.setCell ⟨b, o, none⟩ u) :=
  h.trans ⟨rfl, rfl, rfl, by simp, fun k _ hk => Below.heap_setCell w _ u k (fun e => hk (e ▸ hb))⟩
theorem Ky.setP {b o : Nat} {a w : World} (h : Ky (fun k => k = b) a w) (u : Value) : Ky (fun k => k = b) a (w.setCell ⟨b, o, none⟩ u) := Ky.setCell (S := fun k => k = b) h rfl u
/-- A struct in a block of its own. -/
structure Bx (X : Nat) (e : TypeId) (cur : Array Value) (w : World) : Prop where
  blk : w.heap[X]? = some (.cells cur e (0, 0))
theorem Bx.lt {X : Nat} {e : TypeId} {cur : Array Value} {w : World} (h : Bx X e cur w) : X < w.heap.size := (Array.getElem?_eq_some_iff.1 h.blk).1
theorem Bx.new (w : World) (e : TypeId) (cur : Array Value) : Bx w.heap.size e cur (w.alloc (.cells cur e)) := ⟨Go.heap_alloc_new w _⟩
theorem Bx.ky {X : Nat} {e : TypeId} {cur : Array Value} {w w' : World} {S : Nat → Prop} (h : Bx X e cur w) (k : Ky S w w') (hS : ¬ S X) : Bx X e cur w' := ⟨(k.block X h.lt hS).trans h.blk⟩
theorem Bx.below {X : Nat} {e : TypeId} {cur : Array Value} {w w' : World} (h : Bx X e cur w) (k : Below w.heap.size w w') : Bx X e cur w' := ⟨(k.block X h.lt).trans h.blk⟩
theorem Bx.alloc {X : Nat} {e : TypeId} {cur : Array Value} {w : World} (h : Bx X e cur w) (o : Obj) : Bx X e cur (w.alloc o) := h.below ((Below.refl _ w).alloc (Nat.le_refl _) o)
theorem Bx.drew {X : Nat} {e : TypeId} {cur : Array Value} {w : World} (h : Bx X e cur w) : Bx X e cur w.drew := ⟨h.blk⟩
theorem Bx.set {X b o : Nat} {e : TypeId} {cur : Array Value} {w : World} (h : Bx X e cur w) (hb : X ≠ b) (u : Value) : Bx X e cur (w.setCell ⟨b, o, none⟩ u) := ⟨(Below.heap_setCell w _ u X hb).trans h.blk⟩
theorem Bx.c {X : Nat} {e : TypeId} {cur : Array Value} {w : World} (h : Bx X e cur w) (j : Nat) (u : Value) (hu : cur[j]? = some u) : w.cell? ⟨X, j, none⟩ = some u := by rw [cell_of_row w X j cur e (0, 0) h.blk]; exact hu
theorem Bx.f {X : Nat} {e : TypeId} {cur : Array Value} {w : World} (h : Bx X e cur w) (j : Nat) : w.frozen? ⟨X, j, none⟩ = false := by unfold World.frozen?; rw [h.blk]; simp
/-- The cells of a struct of four, of five. -/
theorem Bx.four {X : Nat} {e : TypeId} {a b c d : Value} {w : World} (h : Bx X e #[a, b, c, d] w) : w.cell? ⟨X, 0, none⟩ = some a ∧ w.cell? ⟨X, 1, none⟩ = some b ∧ w.cell? ⟨X, 2, none⟩ = some c ∧ w.cell? ⟨X, 3, none⟩ = some d := ⟨h.c 0 _ rfl, h.c 1 _ rfl, h.c 2 _ rfl, h.c 3 _ rfl⟩
theorem Bx.five {X : Nat} {e : TypeId} {a b c d f : Value} {w : World} (h : Bx X e #[a, b, c, d, f] w) : w.cell? ⟨X, 0, none⟩ = some a ∧ w.cell? ⟨X, 1, none⟩ = some b ∧ w.cell? ⟨X, 2, none⟩ = some c ∧ w.cell? ⟨X, 3, none⟩ = some d ∧ w.cell? ⟨X, 4, none⟩ = some f := ⟨h.c 0 _ rfl, h.c 1 _ rfl, h.c 2 _ rfl, h.c 3 _ rfl, h.c 4 _ rfl⟩
theorem Bx.fiveA {X : Nat} {e : TypeId} {a b c d f : Value} {w : World} (h : Bx X e #[a, b, c, d, f] w) : (∀ o, (w.alloc o).cell? ⟨X, 0, none⟩ = some a) ∧ (∀ o, (w.alloc o).cell? ⟨X, 1, none⟩ = some b) ∧ (∀ o, (w.alloc o).cell? ⟨X, 2, none⟩ = some c) ∧ (∀ o, (w.alloc o).cell? ⟨X, 3, none⟩ = some d) ∧ (∀ o, (w.alloc o).cell? ⟨X, 4, none⟩ = some f) :=
  ⟨fun o => (h.alloc o).c 0 _ rfl, fun o => (h.alloc o).c 1 _ rfl, fun o => (h.alloc o).c 2 _ rfl, fun o => (h.alloc o).c 3 _ rfl, fun o => (h.alloc o).c 4 _ rfl⟩
theorem Bx.frozen5 {X : Nat} {e : TypeId} {cur : Array Value} {w : World} (h : Bx X e cur w) : w.frozen? ⟨X, 0, none⟩ = false ∧ w.frozen? ⟨X, 1, none⟩ = false ∧ w.frozen? ⟨X, 2, none⟩ = false ∧ w.frozen? ⟨X, 3, none⟩ = false ∧ w.frozen? ⟨X, 4, none⟩ = false := ⟨h.f 0, h.f 1, h.f 2, h.f 3, h.f 4⟩
theorem Bx.frozen5A {X : Nat} {e : TypeId} {cur : Array Value} {w : World} (h : Bx X e cur w) : (∀ o, (w.alloc o).frozen? ⟨X, 0, none⟩ = false) ∧ (∀ o, (w.alloc o).frozen? ⟨X, 1, none⟩ = false) ∧ (∀ o, (w.alloc o).frozen? ⟨X, 2, none⟩ = false) ∧ (∀ o, (w.alloc o).frozen? ⟨X, 3, none⟩ = false) ∧ (∀ o, (w.alloc o).frozen? ⟨X, 4, none⟩ = false) :=
  ⟨fun o => (h.alloc o).f 0, fun o => (h.alloc o).f 1, fun o => (h.alloc o).f 2, fun o => (h.alloc o).f 3, fun o => (h.alloc o).f 4⟩
/-- The last token is the end. -/
def Ends (l : List Tok) : Prop := ∃ pre e, l = pre ++ [e] ∧ e.k = 6
theorem Ends.ne {l : List Tok} (h : Ends l) : l ≠ [] := by obtain ⟨p, e, rfl, _⟩ := h; simp
theorem Ends.tail {t : Tok} {l : List Tok} (h : Ends (t :: l)) (ht : cls t ≠ 56) : Ends l := by
  obtain ⟨p, e, h1, h2⟩ := h
  cases p with
  | nil =>
    simp at h1
    obtain ⟨rfl, rfl⟩ := h1
    exact absurd (cls_of_kind t 6 h2 (by simp)) ht
  | cons a p => simp at h1; exact ⟨p, e, h1.2, h2⟩
/-- The parser at block b: the tokens T in a row below m, those from its place on. -/
structure PS (b m : Nat) (T l : List Tok) (W : World) : Prop where
  tok : ∃ g cap, W.cell? ⟨b, 0, none⟩ = some (.slice (some ⟨g, 0, none⟩) T.length cap) ∧ g < m ∧ g ≠ b ∧ ∀ j u, (cellsT T)[j]? = some u → W.cell? ⟨g, j, none⟩ = some u
  plc : ∃ i : Nat, W.cell? ⟨b, 1, none⟩ = some (.int .i64 i) ∧ T.drop i = l ∧ T.length = i + l.length
  fz : W.frozen? ⟨b, 1, none⟩ = false
  lt : b < m ∧ m ≤ W.heap.size
  ends : Ends l
  small : T.length ≤ 20001
theorem PS.ky {b m : Nat} {T l : List Tok} {W W' : World} {S : Nat → Prop} (h : PS b m T l W) (k : Ky S W W') (hS : ∀ x, x < m → ¬ S x) : PS b m T l W' := by
  have hlt := h.lt
  have hb : W'.heap[b]? = W.heap[b]? := k.block b (by omega) (hS b (by omega))
  obtain ⟨g, cap, h1, h2, h3, h4⟩ := h.tok
  obtain ⟨i, h5, h6, h7⟩ := h.plc
  have hg : W'.heap[g]? = W.heap[g]? := k.block g (by omega) (hS g (by omega))
  exact ⟨⟨g, cap, (World.cell?_of_block hb).trans h1, h2, h3, fun j u hu => (World.cell?_of_block hg).trans (h4 j u hu)⟩, ⟨i, (World.cell?_of_block hb).trans h5, h6, h7⟩, (World.frozen?_of_block hb).trans h.fz, ⟨hlt.1, Nat.le_trans hlt.2 k.size⟩, h.ends, h.small⟩
theorem PS.alloc {b m : Nat} {T l : List Tok} {W : World} (h : PS b m T l W) (o : Obj) : PS b m T l (W.alloc o) := h.ky (S := fun _ => False) ((Ky.refl _ _).alloc o) (fun _ _ => id)
theorem PS.drew {b m : Nat} {T l : List Tok} {W : World} (h : PS b m T l W) : PS b m T l W.drew := ⟨h.tok, h.plc, h.fz, h.lt, h.ends, h.small⟩
theorem PS.cons {b m : Nat} {T l : List Tok} {W : World} (h : PS b m T l W) : ∃ t l', l = t :: l' := by
  cases l with
  | nil => exact absurd rfl h.ends.ne
  | cons t l => exact ⟨t, l, rfl⟩
theorem cellsT_at : ∀ (ts : List Tok) (k j : Nat) (t : Tok), ts[k]? = some t → j < 4 → (cellsT ts)[k * 4 + j]? = (cellT t)[j]?
  | [], k, j, t, h, _ => by simp at h
  | a :: ts, 0, j, t, h, hj => by
    simp at h
    subst h
    show (cellT a ++ cellsT ts)[0 * 4 + j]? = _
    rw [List.getElem?_append_left (by simp [cellT]; omega)]; simp
  | a :: ts, k + 1, j, t, h, hj => by
    simp at h
    show (cellT a ++ cellsT ts)[(k + 1) * 4 + j]? = _
    rw [List.getElem?_append_right (by simp [cellT]; omega)]
    have : (k + 1) * 4 + j - (cellT a).length = k * 4 + j := by simp [cellT]; omega
    rw [this]
    exact cellsT_at ts k j t h hj
/-- What the walk of token reads. -/
theorem PS.reads {b m : Nat} {T l : List Tok} {t : Tok} {W : World} (h : PS b m T (t :: l) W) : ∃ g cap i : Nat, W.cell? ⟨b, 0, none⟩ = some (.slice (some ⟨g, 0, none⟩) T.length cap) ∧ W.cell? ⟨b, 1, none⟩ = some (.int .i64 i) ∧ i < T.length ∧ i + 1 ≤ 20001 ∧
    W.cell? ⟨g, i * 4, none⟩ = some (.int .i64 t.k) ∧ W.cell? ⟨g, i * 4 + 1, none⟩ = some (.string ⟨t.t.toArray⟩) ∧ W.cell? ⟨g, i * 4 + 2, none⟩ = some (.int .i64 t.v) ∧ W.cell? ⟨g, i * 4 + 3, none⟩ = some (.int .i64 t.p) := by
  obtain ⟨g, cap, h1, h2, h3, h4⟩ := h.tok
  obtain ⟨i, h5, h6, h7⟩ := h.plc
  have hs := h.small
  have hi : T[i]? = some t := by
    have : (T.drop i)[0]? = some t := by rw [h6]; rfl
    simpa using this
  simp at h7
  have hc := fun j hj => cellsT_at T i j t hi hj
  refine ⟨g, cap, i, h1, h5, by omega, by omega, h4 _ _ (hc 0 (by omega)), h4 _ _ (hc 1 (by omega)), h4 _ _ (hc 2 (by omega)), h4 _ _ (hc 3 (by omega))⟩
/-- One token is taken. -/
theorem PS.next {b m : Nat} {T l : List Tok} {t : Tok} {W : World} {i : Nat} (h : PS b m T (t :: l) W) (ht : cls t ≠ 56) (hi : W.cell? ⟨b, 1, none⟩ = some (.int .i64 i)) : PS b m T l (W.setCell ⟨b, 1, none⟩ (.int .i64 ((i : Int) + 1))) := by
  obtain ⟨g, cap, h1, h2, h3, h4⟩ := h.tok
  obtain ⟨i', h5, h6, h7⟩ := h.plc
  obtain rfl : i' = i := by rw [h5] at hi; simp at hi; omega
  have hb : ∀ j u, (W.setCell ⟨b, 1, none⟩ u).cell? ⟨g, j, none⟩ = W.cell? ⟨g, j, none⟩ := fun j u => World.cell?_setCell_other _ _ _ _ (fun e => h3 (by injection e with e1; exact e1.symm))
  refine ⟨⟨g, cap, ?_, h2, h3, fun j u hu => (hb j _).trans (h4 j u hu)⟩, ⟨i' + 1, World.cell?_setCell_same _ _ _ hi, ?_, by simp at h7; omega⟩, by simpa using h.fz, by rw [size_set]; exact h.lt, h.ends.tail ht, h.small⟩
  · rw [World.cell?_setCell_other _ _ _ _ (fun e => by injection e with e1 e2; cases e2)]; exact h1
  · have : T.drop (i' + 1) = (T.drop i').drop 1 := by simp
    rw [this, h6]; rfl
@[go_sem] theorem tf0 (k v p : Int) (s : ByteArray) (W : World) : (Instr.field 86 (.agg #[.int .i64 k, .string s, .int .i64 v, .int .i64 p]) 0).run Tryz.prog W = .ok (.int .i64 k) W := by kernel_rfl
@[go_sem] theorem tf3 (k v p : Int) (s : ByteArray) (W : World) : (Instr.field 86 (.agg #[.int .i64 k, .string s, .int .i64 v, .int .i64 p]) 3).run Tryz.prog W = .ok (.int .i64 p) W := by kernel_rfl
@[go_sem] theorem nf1 (k n p : Int) (s : ByteArray) (v : Value) (W : World) : (Instr.field 42 (.agg #[.int .i64 k, .string s, .int .i64 n, .int .i64 p, v]) 1).run Tryz.prog W = .ok (.string s) W := by kernel_rfl
theorem Ky.new {S : Nat → Prop} {X o : Nat} {a w : World} (h : Ky S a w) (hX : a.heap.size ≤ X) (u : Value) : Ky S a (w.setCell ⟨X, o, none⟩ u) :=
  ⟨h.os, h.tape, h.output, by simpa using h.size, fun k hk hn => (Below.heap_setCell w _ u k (by show k ≠ X; omega)).trans (h.block k hk hn)⟩
theorem PS.set {b m X o : Nat} {T l : List Tok} {w : World} (h : PS b m T l w) (hX : m ≤ X) (u : Value) : PS b m T l (w.setCell ⟨X, o, none⟩ u) :=
  h.ky (S := fun k => k = X) (Ky.setP (Ky.refl _ _) u) (fun x hx e => by omega)
/-- What the taking of tokens leaves. -/
structure Tk (b m : Nat) (T l : List Tok) (W W' : World) : Prop where
  ps : PS b m T l W'
  ky : Ky (fun k => k = b) W W'
theorem Tk.new {b m X o : Nat} {T l : List Tok} {W w : World} (h : Tk b m T l W w) (hX : W.heap.size ≤ X) (hm : m ≤ W.heap.size) (u : Value) : Tk b m T l W (w.setCell ⟨X, o, none⟩ u) := ⟨h.ps.set (by omega) u, h.ky.new hX u⟩
theorem Tk.alloc {b m : Nat} {T l : List Tok} {W w : World} (h : Tk b m T l W w) (o : Obj) : Tk b m T l W (w.alloc o) := ⟨h.ps.alloc o, h.ky.alloc o⟩
theorem Tk.trans {b m : Nat} {T l l' : List Tok} {x y z : World} (h : Tk b m T l x y) (k : Tk b m T l' y z) : Tk b m T l' x z := ⟨k.ps, h.ky.trans k.ky⟩
theorem Tk.below {b m : Nat} {T l : List Tok} {x y z : World} (h : Tk b m T l x y) (k : Below y.heap.size y z) : Tk b m T l x z := ⟨h.ps.ky (S := fun _ => False) (.of_below k) (fun _ _ => id), h.ky.trans (.of_below k)⟩
theorem Tk.drew {b m : Nat} {T l : List Tok} {x y : World} (h : Tk b m T l x y) : Tk b m T l x y.drew := ⟨h.ps.drew, h.ky.drew⟩
theorem PS.tk {b m : Nat} {T l : List Tok} {W : World} (h : PS b m T l W) : Tk b m T l W W := ⟨h, Ky.refl _ _⟩
theorem Tk.five {b m X : Nat} {T l : List Tok} {W w : World} (h : Tk b m T l W w) (hX : W.heap.size ≤ X) (hm : m ≤ W.heap.size) (u0 u1 u2 u3 u4 : Value) : Tk b m T l W (((((w.setCell ⟨X, 0, none⟩ u0).setCell ⟨X, 1, none⟩ u1).setCell ⟨X, 2, none⟩ u2).setCell ⟨X, 3, none⟩ u3).setCell ⟨X, 4, none⟩ u4) :=
  ((((h.new hX hm u0).new hX hm u1).new hX hm u2).new hX hm u3).new hX hm u4
/-- The parser's refusal. -/
def refp (a : Int) : Ending := .panicked [{ v := .iface 80 (.agg #[.int .i64 4, .int .i64 a]), recovered := false }]
theorem PS.readsA {b m : Nat} {T l : List Tok} {t : Tok} {W : World} (h : PS b m T (t :: l) W) : ∃ g cap i : Nat, (∀ o, (W.alloc o).cell? ⟨b, 0, none⟩ = some (.slice (some ⟨g, 0, none⟩) T.length cap)) ∧ (∀ o, (W.alloc o).cell? ⟨b, 1, none⟩ = some (.int .i64 i)) ∧ i < T.length ∧ i + 1 ≤ 20001 ∧
    (∀ o, (W.alloc o).cell? ⟨g, i * 4, none⟩ = some (.int .i64 t.k)) ∧ (∀ o, (W.alloc o).cell? ⟨g, i * 4 + 1, none⟩ = some (.string ⟨t.t.toArray⟩)) ∧ (∀ o, (W.alloc o).cell? ⟨g, i * 4 + 2, none⟩ = some (.int .i64 t.v)) ∧ (∀ o, (W.alloc o).cell? ⟨g, i * 4 + 3, none⟩ = some (.int .i64 t.p)) := by
  have hlt := h.lt
  obtain ⟨g, cap, i, h1, h2, h3, h4, c0, c1, c2, c3⟩ := h.reads
  have hb : b < W.heap.size := by omega
  have hg : g < W.heap.size := World.block_lt_of_cell? W ⟨g, i * 4, none⟩ c0
  exact ⟨g, cap, i, fun o => alloc_cell hb h1 o, fun o => alloc_cell hb h2 o, h3, h4, fun o => alloc_cell hg c0 o, fun o => alloc_cell hg c1 o, fun o => alloc_cell hg c2 o, fun o => alloc_cell hg c3 o⟩
set_option maxHeartbeats 1000000 in
theorem token_any (b m : Nat) (T l : List Tok) (t : Tok) (W : World) (h : PS b m T (t :: l) W) : Calls Tryz.prog 49 #[.pointer (some ⟨b, 0, none⟩)] W fun e w' => e = .returned (.agg #[.int .i64 t.k, .string ⟨t.t.toArray⟩, .int .i64 t.v, .int .i64 t.p]) ∧ Below W.heap.size W w' := by
  obtain ⟨g, cap, i, h1, h2, h3, h4, c0, c1, c2, c3⟩ := h.readsA
  go_enter Tryz.func49, Tryz.ntmps49
  go_wp2
  go_region
  all_goals
    go_wp2
    refine bodyPost_ret (v := (.agg #[.int .i64 t.k, .string ⟨t.t.toArray⟩, .int .i64 t.v, .int .i64 t.p])) (by simp [results, Tryz.results49, go_sem]) rfl ?_
    exact ⟨rfl, ((Below.refl _ _).alloc (Nat.le_refl _) _).drew⟩
end Go.Proofs.YtmejlldabdjpjaaGreat

/- The walks of the parser's small functions: reads, is, at, accept, take, expect, closes, name, binding. -/
namespace Go.Proofs.YtmejlldabdjpjaaGreat
open Go.RowKit
set_option maxRecDepth 20000
set_option maxHeartbeats 1000000 in
theorem at_any (b m : Nat) (T l : List Tok) (t : Tok) (W : World) (h : PS b m T (t :: l) W) : Calls Tryz.prog 51 #[.pointer (some ⟨b, 0, none⟩)] W fun e w' => e = .returned (.int .i64 t.p) ∧ Below W.heap.size W w' := by
  go_enter Tryz.func51, Tryz.ntmps51
  go_wp2_with (go_at_call 49; refine (token_any b m T l t _ h).mono ?_; rintro e w1 ⟨rfl, hb⟩)
  go_ret
  exact ⟨rfl, hb⟩
theorem ba_eq (a w : List UInt8) : ((⟨a.toArray⟩ : ByteArray) = ⟨w.toArray⟩) ↔ a = w := by
  constructor
  · intro h; injection h with h; injection h
  · rintro rfl; rfl
set_option maxHeartbeats 1000000 in
theorem reads_any (t : Tok) (w : List UInt8) (W : World) : Calls Tryz.prog 121 #[(.agg #[.int .i64 t.k, .string ⟨t.t.toArray⟩, .int .i64 t.v, .int .i64 t.p]), .string ⟨w.toArray⟩] W fun e w' => e = .returned (.bool (rd t w)) ∧ Below W.heap.size W w' := by
  unfold rd
  by_cases hk2 : t.k = 2
  · by_cases ht : t.t = w
    · have e1 : ((t.k == 2 || t.k == 5) && t.t == w) = true := by simp [hk2, ht]
      rw [e1]
      go_enter Tryz.func121, Tryz.ntmps121
      go_wp2
      go_ret
      exact ⟨rfl, (Below.refl _ _).alloc (Nat.le_refl _) _⟩
    · have e1 : ((t.k == 2 || t.k == 5) && t.t == w) = false := by simp [ht]
      rw [e1]
      have ht' : ¬ ((⟨t.t.toArray⟩ : ByteArray) = ⟨w.toArray⟩) := fun e => ht ((ba_eq _ _).1 e)
      go_enter Tryz.func121, Tryz.ntmps121
      go_wp2
      go_ret
      exact ⟨by simp [ht], (Below.refl _ _).alloc (Nat.le_refl _) _⟩
  · by_cases hk5 : t.k = 5
    · by_cases ht : t.t = w
      · have e1 : ((t.k == 2 || t.k == 5) && t.t == w) = true := by simp [hk5, ht]
        rw [e1]
        go_enter Tryz.func121, Tryz.ntmps121
        go_wp2
        go_ret
        exact ⟨rfl, (Below.refl _ _).alloc (Nat.le_refl _) _⟩
      · have e1 : ((t.k == 2 || t.k == 5) && t.t == w) = false := by simp [ht]
        rw [e1]
        have ht' : ¬ ((⟨t.t.toArray⟩ : ByteArray) = ⟨w.toArray⟩) := fun e => ht ((ba_eq _ _).1 e)
        go_enter Tryz.func121, Tryz.ntmps121
        go_wp2
        go_ret
        exact ⟨by simp [ht], (Below.refl _ _).alloc (Nat.le_refl _) _⟩
    · have e1 : ((t.k == 2 || t.k == 5) && t.t == w) = false := by simp [hk2, hk5]
      rw [e1]
      go_enter Tryz.func121, Tryz.ntmps121
      go_wp2
      go_ret
      exact ⟨rfl, (Below.refl _ _).alloc (Nat.le_refl _) _⟩
set_option maxHeartbeats 1000000 in
theorem is_any (b m : Nat) (T l : List Tok) (t : Tok) (w : List UInt8) (W : World) (h : PS b m T (t :: l) W) : Calls Tryz.prog 88 #[.pointer (some ⟨b, 0, none⟩), .string ⟨w.toArray⟩] W fun e w' => e = .returned (.bool (rd t w)) ∧ Below W.heap.size W w' := by
  go_enter Tryz.func88, Tryz.ntmps88
  go_wp2_with (first | (go_at_call 49; refine (token_any b m T l t _ h).mono ?_; rintro e w1 ⟨rfl, hb⟩) | (go_at_call 121; refine (reads_any t w _).mono ?_; rintro e w2 ⟨rfl, hb2⟩))
  go_ret
  exact ⟨rfl, hb.trans (hb2.mono hb.size)⟩
theorem PS.below {b m : Nat} {T l : List Tok} {W W' : World} (h : PS b m T l W) (hb : Below W.heap.size W W') : PS b m T l W' := h.ky (S := fun _ => False) (.of_below hb) (fun _ _ => id)
theorem cls_rd {t : Tok} {c : Nat} (h : cls t = c) (h1 : 1 ≤ c) (h2 : c ≤ 42) : rd t (wds c) = true := by rw [rd_cls t c h1 h2, h]; simp
theorem cls_nrd {t : Tok} {c : Nat} (h : cls t ≠ c) (h1 : 1 ≤ c) (h2 : c ≤ 42) : rd t (wds c) = false := by rw [rd_cls t c h1 h2]; simpa using h
theorem refuse_p (a : Int) (w : World) : Calls Tryz.prog 50 #[.int .i64 a] w fun e w' => e = refp a ∧ Below w.heap.size w w' := by
  go_enter Tryz.func50, Tryz.ntmps50
  go_wp2
  exact ⟨rfl, rfl, Below.refl _ _⟩
set_option maxHeartbeats 1000000 in
theorem take_p (b m : Nat) (T l : List Tok) (t : Tok) (W : World) (h : PS b m T (t :: l) W) (hc : cls t ≠ 56) : Calls Tryz.prog 122 #[.pointer (some ⟨b, 0, none⟩)] W fun e w' => e = .returned (.agg #[.int .i64 t.k, .string ⟨t.t.toArray⟩, .int .i64 t.v, .int .i64 t.p]) ∧ Tk b m T l W w' := by
  have hlt := h.lt
  have hbW : W.heap.size ≠ b := by omega
  go_enter Tryz.func122, Tryz.ntmps122
  go_wp2_with (go_at_call 49; refine (token_any b m T l t _ (h.alloc _)).mono ?_; rintro e w1 ⟨rfl, hb⟩; have hp1 := ((h.alloc _).below hb).alloc (.cells #[.int .i64 t.k, .string ⟨t.t.toArray⟩, .int .i64 t.v, .int .i64 t.p] 86); obtain ⟨g, cap, i, r1, r2, r3, r4, -⟩ := hp1.reads; have r5 := hp1.fz; have hn := hp1.next hc r2; have R0 := (((Bx.new W 86 _).below hb).alloc (.cells #[.int .i64 t.k, .string ⟨t.t.toArray⟩, .int .i64 t.v, .int .i64 t.p] 86)).set (o := 1) hbW (.int .i64 ((i : Int) + 1)); have L0 := (Bx.new w1 86 #[.int .i64 t.k, .string ⟨t.t.toArray⟩, .int .i64 t.v, .int .i64 t.p]).set (b := b) (o := 1) (by have := hb.size; simp at this; omega) (.int .i64 ((i : Int) + 1)); have K0 : Ky (fun k => k = b) W ((w1.alloc (.cells #[.int .i64 t.k, .string ⟨t.t.toArray⟩, .int .i64 t.v, .int .i64 t.p] 86)).setCell ⟨b, 1, none⟩ (.int .i64 ((i : Int) + 1))) := ((((Ky.refl _ W).alloc _).trans (Ky.of_below hb)).alloc _).setP _; obtain ⟨w2, hw2⟩ : ∃ w2, (w1.alloc (.cells #[.int .i64 t.k, .string ⟨t.t.toArray⟩, .int .i64 t.v, .int .i64 t.p] 86)).setCell ⟨b, 1, none⟩ (.int .i64 ((i : Int) + 1)) = w2 := ⟨_, rfl⟩; rw [hw2] at hn R0 L0 K0; obtain ⟨l0, l1, l2, l3⟩ := L0.four; obtain ⟨q0, q1, q2, q3⟩ := R0.four; have f0 := R0.f 0; have f1 := R0.f 1; have f2 := R0.f 2; have f3 := R0.f 3)
  refine bodyPost_ret (v := (.agg #[.int .i64 t.k, .string ⟨t.t.toArray⟩, .int .i64 t.v, .int .i64 t.p])) (by simp [results, Tryz.results122, go_sem, q0, q1, q2, q3]) rfl ?_
  exact ⟨rfl, ((((Tk.mk hn K0).new (Nat.le_refl _) hlt.2 _).new (Nat.le_refl _) hlt.2 _).new (Nat.le_refl _) hlt.2 _).new (Nat.le_refl _) hlt.2 _⟩
set_option maxHeartbeats 1000000 in
theorem name_yes (b m : Nat) (T l : List Tok) (t : Tok) (W : World) (h : PS b m T (t :: l) W) (hc : cls t = 51) : Calls Tryz.prog 124 #[.pointer (some ⟨b, 0, none⟩)] W fun e w' => e = .returned (.agg #[.int .i64 (6), .string ⟨(t.t).toArray⟩, .int .i64 (0), .int .i64 (t.p), .slice none 0 0]) ∧ Tk b m T l W w' := by
  have hk : t.k = 1 := cls_kind t 51 hc (by omega)
  have hlt := h.lt
  have hbW : W.heap.size ≠ b := by omega
  go_enter Tryz.func124, Tryz.ntmps124
  go_wp2_with (first | (go_at_call 49; refine (token_any b m T l t _ (h.alloc _)).mono ?_; rintro e w1 ⟨rfl, hb⟩; have h1 := (h.alloc _).below hb; have R1 := (Bx.new W 42 _).below hb; have K1 := ((Ky.refl (fun k => k = b) W).alloc _).trans (Ky.of_below hb)) | (go_at_call 122; refine (take_p b m T l t _ h1 (by omega)).mono ?_; rintro e w2 ⟨rfl, hT⟩; have R2 := R1.ky hT.ky hbW; obtain ⟨q0, q1, q2, q3, q4⟩ := R2.fiveA; obtain ⟨f0, f1, f2, f3, f4⟩ := R2.frozen5A))
  refine bodyPost_ret (v := (.agg #[.int .i64 (6), .string ⟨(t.t).toArray⟩, .int .i64 (0), .int .i64 (t.p), .slice none 0 0])) (by simp [results, Tryz.results124, go_sem, q0, q1, q2, q3, q4]) rfl ?_
  exact ⟨rfl, ((Tk.mk hT.ps (K1.trans hT.ky)).alloc _).five (Nat.le_refl _) hlt.2 _ _ _ _ _⟩
set_option maxHeartbeats 1000000 in
theorem name_no (b m : Nat) (T l : List Tok) (t : Tok) (W : World) (h : PS b m T (t :: l) W) (hc : cls t ≠ 51) : Calls Tryz.prog 124 #[.pointer (some ⟨b, 0, none⟩)] W fun e w' => e = refp t.p ∧ Below W.heap.size W w' := by
  have hk : ¬ t.k = 1 := fun e => hc (cls_of_kind t 1 e (by simp))
  go_enter Tryz.func124, Tryz.ntmps124
  go_wp2_with (first | (go_at_call 49; refine (token_any b m T l t _ (h.alloc _)).mono ?_; rintro e w1 ⟨rfl, hb⟩; have h1 := (h.alloc _).below hb; have B1 := ((Below.refl _ W).alloc (Nat.le_refl _) _).trans (hb.mono (by simp))) | (go_at_call 51; refine (at_any b m T l t _ h1).mono ?_; rintro e w2 ⟨rfl, hb2⟩) | (go_at_call 50; refine (refuse_p _ _).mono ?_; rintro e w3 ⟨he, hb3⟩; unfold refp at he; subst he))
  exact ⟨rfl, rfl, (B1.trans (hb2.mono B1.size)).trans (hb3.mono (Nat.le_trans B1.size hb2.size))⟩
set_option maxHeartbeats 1000000 in
theorem nameText_yes (b m : Nat) (T l : List Tok) (t : Tok) (W : World) (h : PS b m T (t :: l) W) (hc : cls t = 51) : Calls Tryz.prog 162 #[.pointer (some ⟨b, 0, none⟩)] W fun e w' => e = .returned (.agg #[.int .i64 (5), .string ⟨(t.t).toArray⟩, .int .i64 (0), .int .i64 (t.p), .slice none 0 0]) ∧ Tk b m T l W w' := by
  have hlt := h.lt
  have hbW : W.heap.size ≠ b := by omega
  go_enter Tryz.func162, Tryz.ntmps162
  go_wp2_with (go_at_call 124; refine (name_yes b m T l t _ (h.alloc _) hc).mono ?_; rintro e w2 ⟨rfl, hT⟩; have R2 := (Bx.new W 42 _).ky hT.ky hbW; obtain ⟨q0, q1, q2, q3, q4⟩ := R2.fiveA; obtain ⟨f0, f1, f2, f3, f4⟩ := R2.frozen5A)
  refine bodyPost_ret (v := (.agg #[.int .i64 (5), .string ⟨(t.t).toArray⟩, .int .i64 (0), .int .i64 (t.p), .slice none 0 0])) (by simp [results, Tryz.results162, go_sem, q0, q1, q2, q3, q4]) rfl ?_
  exact ⟨rfl, ((Tk.mk hT.ps (((Ky.refl (fun k => k = b) W).alloc _).trans hT.ky)).alloc _).five (Nat.le_refl _) hlt.2 _ _ _ _ _⟩
set_option maxHeartbeats 1000000 in
theorem nameText_no (b m : Nat) (T l : List Tok) (t : Tok) (W : World) (h : PS b m T (t :: l) W) (hc : cls t ≠ 51) : Calls Tryz.prog 162 #[.pointer (some ⟨b, 0, none⟩)] W fun e w' => e = refp t.p ∧ Below W.heap.size W w' := by
  go_enter Tryz.func162, Tryz.ntmps162
  go_wp2_with (go_at_call 124; refine (name_no b m T l t _ (h.alloc _) hc).mono ?_; rintro e w2 ⟨he, hb2⟩; unfold refp at he; subst he)
  exact ⟨rfl, rfl, ((Below.refl _ W).alloc (Nat.le_refl _) _).trans (hb2.mono (by simp))⟩
end Go.Proofs.YtmejlldabdjpjaaGreat
