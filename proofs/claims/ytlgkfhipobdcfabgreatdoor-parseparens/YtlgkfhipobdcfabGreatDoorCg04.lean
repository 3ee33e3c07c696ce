/- The walk of escaped: what an escape stands for, by its first byte. -/
import Derived.Test.YtlgkfhipobdcfabGreatDoorCg03
import Derived.Deep.RegionHeld3
import Derived.Deep.AppendLies
import Derived.OwnWalk
import Derived.Laws.Pointers
namespace Go.Proofs.YtlgkfhipobdcfabGreatDoor
open Go.RowKit

theorem beq_t {c n : Nat} (h : c = n) : (((c : Nat) : Int) == (n : Int)) = true := by simp [h]
theorem beq_f {c n : Nat} (h : ¬ c = n) : (((c : Nat) : Int) == (n : Int)) = false := by simp; omega

set_option maxHeartbeats 4000000 in
theorem escaped_any (s : ByteArray) (c : UInt8) (u : List UInt8) (w : World) (hs : s.size ≤ maxLen) (hl : s.data.toList = c :: u) : Calls Tryz.prog 88 #[.string s] w fun e w' => e = .returned (ansE (esc (c :: u))) ∧ Below w.heap.size w w' := by
  have hs' := hs
  unfold maxLen at hs'
  have h0 : 0 < s.size := by
    have := congrArg List.length hl
    rw [Array.length_toList] at this
    have h2 : s.data.size = s.size := rfl
    simp at this; omega
  have hc : s[0] = c := by
    have h := head_at s h0
    rw [hl] at h; exact h.symm
  have hx1 : s.extract 0 1 = ⟨#[c]⟩ := by
    apply ByteArray.ext
    apply Array.toList_inj.1
    have : (s.extract 0 1).data.toList = s.data.toList.take 1 := by simp
    rw [this, hl]; rfl
  have C1 := fun w => hexa_any s w hs
  rw [hl, List.drop_succ_cons, List.drop_zero] at C1
  have C2 := fun (h : c.toNat = 117) w => codePoint_any s u w hs (by rw [hl]; congr 1; exact (toN c 117 (by omega)).1 h)
  have C3 := fun w => decimal_any s w hs
  rw [hl] at C3
  have hcn : s[0].toNat = c.toNat := by rw [hc]
  obtain ⟨n, hn⟩ : ∃ n, s[0].toNat = n := ⟨_, rfl⟩
  rw [hn] at hcn
  simp only [esc]
  unfold ansE
  rw [← hcn] at C2 ⊢
  clear hl hc hcn
  by_cases a1 : n = 110
  · have b1 := beq_t a1
    rw [if_pos a1]
    clear a1 C1 C2 C3
    go_enter Tryz.func88, Tryz.ntmps88
    go_wp2
    go_ret2
    exact ⟨rfl, Below.refl _ _⟩
  have b1 := beq_f a1
  rw [if_neg a1]
  by_cases a2 : n = 116
  · have b2 := beq_t a2
    rw [if_pos a2]
    clear a1 a2 C1 C2 C3
    go_enter Tryz.func88, Tryz.ntmps88
    go_wp2
    go_ret2
    exact ⟨rfl, Below.refl _ _⟩
  have b2 := beq_f a2
  rw [if_neg a2]
  by_cases a3 : n = 114
  · have b3 := beq_t a3
    rw [if_pos a3]
    clear a1 a2 a3 C1 C2 C3
    go_enter Tryz.func88, Tryz.ntmps88
    go_wp2
    go_ret2
    exact ⟨rfl, Below.refl _ _⟩
  have b3 := beq_f a3
  rw [if_neg a3]
  by_cases a4 : n = 92
  · have b4 := beq_t a4
    rw [if_pos (.inl a4)]
    clear a1 a2 a3 a4 C1 C2 C3
    go_enter Tryz.func88, Tryz.ntmps88
    go_wp2
    go_ret2
    exact ⟨rfl, Below.refl _ _⟩
  have b4 := beq_f a4
  by_cases a5 : n = 34
  · have b5 := beq_t a5
    rw [if_pos (.inr (.inl a5))]
    clear a1 a2 a3 a4 a5 C1 C2 C3
    go_enter Tryz.func88, Tryz.ntmps88
    go_wp2
    go_ret2
    exact ⟨rfl, Below.refl _ _⟩
  have b5 := beq_f a5
  by_cases a6 : n = 39
  · have b6 := beq_t a6
    rw [if_pos (.inr (.inr a6))]
    clear a1 a2 a3 a4 a5 a6 C1 C2 C3
    go_enter Tryz.func88, Tryz.ntmps88
    go_wp2
    go_ret2
    exact ⟨rfl, Below.refl _ _⟩
  have b6 := beq_f a6
  rw [if_neg (by omega)]
  by_cases a7 : n = 120
  · have b7 := beq_t a7
    rw [if_pos a7]
    unfold ansE at C1
    clear a1 a2 a3 a4 a5 a6 a7 C2 C3
    go_enter Tryz.func88, Tryz.ntmps88
    go_wp2_with (go_at_call 99; refine (C1 _).mono ?_; rintro e w1 ⟨rfl, hb⟩)
    go_ret2
    exact ⟨rfl, hb⟩
  have b7 := beq_f a7
  rw [if_neg a7]
  by_cases a8 : n = 117
  · have b8 := beq_t a8
    rw [if_pos a8]
    have C2' := C2 a8
    unfold ansE at C2'
    clear a1 a2 a3 a4 a5 a6 a7 a8 C1 C2 C3
    go_enter Tryz.func88, Tryz.ntmps88
    go_wp2_with (go_at_call 100; refine (C2' _).mono ?_; rintro e w1 ⟨rfl, hb⟩)
    go_ret2
    exact ⟨rfl, hb⟩
  have b8 := beq_f a8
  rw [if_neg a8]
  unfold ansE at C3
  clear a1 a2 a3 a4 a5 a6 a7 a8 C1 C2
  go_enter Tryz.func88, Tryz.ntmps88
  go_wp2_with (go_at_call 101; refine (C3 _).mono ?_; rintro e w1 ⟨rfl, hb⟩)
  go_ret2
  exact ⟨rfl, hb⟩

end Go.Proofs.YtlgkfhipobdcfabGreatDoor

/- The scanner in memory: its text, its tokens; what a call leaves; the walk of add. -/
namespace Go.Proofs.YtlgkfhipobdcfabGreatDoor
open Go.RowKit

set_option maxHeartbeats 400000 in
theorem clone_any (s : ByteArray) (w : World) (h : s.size ≤ 281474976710656) : Calls Tryz.prog 51 #[.string s] w fun e w' => e = .returned (.string s) ∧ Below w.heap.size w w' := by
  go_enter Tryz.func51, Tryz.ntmps51
  go_wp2_with (go_at_call 78; refine (Tryz.stringslite_Clone _ _ h).mono ?_; rintro e w1 ⟨rfl, hb⟩)
  go_ret
  exact ⟨rfl, hb⟩

/-- A call of a Go function at a step of a region that draws its order. -/
theorem step_go {ops : Array Oper} {o : Oper} {ac : Act} {K : Act → World → Prop} {Q : Exit → Act → World → Prop} {E : Prop} {W : World} (hgd : o.guard = none) (f : FuncId) (xs : Array Operand) (ats : Array TypeId)
    (ho : o.op = .call { callee := .value (.func f), args := xs, argTypes := ats }) (args : Array Value) (hx : #[] ++ xs.map ac.eval ++ #[] = args) (eg : ∀ args w, (callFunc f args).run Tryz.prog w = .ok (.enter f args) w)
    {R : Ending → World → Prop} (C : Calls Tryz.prog f args W R) (v : Value) (hv : ∀ e w', R e w' → e = .returned v) (hK : ∀ w', R (.returned v) w' → K (ac.put o.dst v) w') :
    if Region.wanted o (yielded ops ac.tmps) = true then Oper.wp Tryz.prog o ac W K Q else E := by
  have hw : Region.wanted o (yielded ops ac.tmps) = true := by simp [Region.wanted, hgd]
  rw [if_pos hw]
  obtain ⟨dst, op, ty, pos, after, guard⟩ := o
  simp only at ho
  subst ho
  unfold Oper.wp
  rw [execOp_call_go, hx, eg, Oper.upon_enter]
  refine C.mono fun e w' h => ?_
  obtain rfl := hv e w' h
  exact hK w' h
theorem enters45 : ∀ args w, (callFunc 51 args).run Tryz.prog w = .ok (.enter 51 args) w := enters_of Tryz.func51 (by kernel_rfl) rfl

/-- A token's cells. -/
def cellT (t : Tok) : List Value := [.int .i64 t.k, .string ⟨t.t.toArray⟩, .int .i64 t.v, .int .i64 t.p]
def cellsT (l : List Tok) : List Value := l.flatMap cellT
theorem cellsT_snoc (l : List Tok) (t : Tok) : cellsT (l ++ [t]) = cellsT l ++ cellT t := by simp [cellsT]

theorem own_below {w w' : World} {base : Nat} {e : TypeId} {size : Nat} {v : Value} {n : Nat} {xs : List Value} (h : w.ownsRow base e size v n xs) (hb : Below w.heap.size w w') : w'.ownsRow base e size v n xs := by
  refine ⟨h.1, ?_⟩
  rcases h.2 with h | ⟨g, cap, cur, h1, h2, h3, r⟩
  · exact .inl h
  · refine .inr ⟨g, cap, cur, h1, h2, ?_, r⟩
    have hg : g < w.heap.size := by
      rcases Nat.lt_or_ge g w.heap.size with hl | hl
      · exact hl
      · rw [Array.getElem?_eq_none hl] at h3; cases h3
    rw [hb.block g hg]; exact h3

/-- What a call keeps: every block below B but b. -/
structure Kp (b B : Nat) (W W' : World) : Prop where
  os : W'.os = W.os
  tape : W'.tape = W.tape
  output : W'.output = W.output
  size : W.heap.size ≤ W'.heap.size
  block : ∀ k, k < B → k ≠ b → W'.heap[k]? = W.heap[k]?
theorem Kp.refl (b B : Nat) (W : World) : Kp b B W W := ⟨rfl, rfl, rfl, Nat.le_refl _, fun _ _ _ => rfl⟩
theorem Kp.trans {b B : Nat} {x y z : World} (h : Kp b B x y) (k : Kp b B y z) : Kp b B x z :=
  ⟨k.os.trans h.os, k.tape.trans h.tape, k.output.trans h.output, Nat.le_trans h.size k.size, fun i hi hn => (k.block i hi hn).trans (h.block i hi hn)⟩
theorem Kp.of_below {b B : Nat} {x y : World} (h : Below x.heap.size x y) (hB : B ≤ x.heap.size) : Kp b B x y :=
  ⟨h.os, h.tape, h.output, h.size, fun k hk _ => h.block k (by omega)⟩
theorem Kp.below {b B : Nat} {x y : World} (h : Kp b B x y) (hb : b ≤ B) : Below b x y :=
  ⟨h.os, h.tape, h.output, h.size, fun k hk => h.block k (by omega) (by omega)⟩
theorem Kp.grown {b B : Nat} {a w w' : World} {row : Option Nat} (h : Kp b B a w) (hg : w.grownBy w' row) (hB : B ≤ w.heap.size) (hr : ∀ k, row = some k → B ≤ k) : Kp b B a w' := by
  have h2 : Below B w w' := (Below.refl B w).grown hg hB hr
  exact h.trans ⟨h2.os, h2.tape, h2.output, h2.size, fun k hk _ => h2.block k hk⟩
theorem Kp.alloc {b B : Nat} {a w : World} (h : Kp b B a w) (hB : B ≤ w.heap.size) (o : Obj) : Kp b B a (w.alloc o) := by
  have h2 : Below B w (w.alloc o) := (Below.refl B w).alloc hB o
  exact h.trans ⟨h2.os, h2.tape, h2.output, h2.size, fun k hk _ => h2.block k hk⟩
theorem Kp.drew {b B : Nat} {a w : World} (h : Kp b B a w) : Kp b B a w.drew := ⟨h.os, h.tape, h.output, h.size, h.block⟩
theorem Kp.setCell {b B o : Nat} {a w : World} (h : Kp b B a w) (u : Value) : Kp b B a (w.setCell ⟨b, o, none⟩ u) :=
  h.trans ⟨rfl, rfl, rfl, by simp, fun k _ hk => Below.heap_setCell w _ u k hk⟩

/-- The scanner at block b: its text, its tokens (a row of its own from block B on). -/
structure SC (b B : Nat) (s : ByteArray) (ts : List Tok) (W : World) : Prop where
  src : W.cell? ⟨b, 0, none⟩ = some (.string s)
  tok : ∃ v, W.cell? ⟨b, 1, none⟩ = some v ∧ W.ownsRow B 56 4 v ts.length (cellsT ts)
  free : W.frozen? ⟨b, 1, none⟩ = false
  lt : b < B ∧ B ≤ W.heap.size
theorem SC.below {b B : Nat} {s : ByteArray} {ts : List Tok} {W W' : World} (h : SC b B s ts W) (hb : Below W.heap.size W W') : SC b B s ts W' := by
  have hl : b < W.heap.size := by have := h.lt; omega
  obtain ⟨v, h1, h2⟩ := h.tok
  exact ⟨(hb.cell hl).trans h.src, ⟨v, (hb.cell hl).trans h1, own_below h2 hb⟩, (hb.frozen hl).trans h.free, h.lt.1, Nat.le_trans h.lt.2 hb.size⟩
theorem SC.iterAt {b B k : Nat} {s x : ByteArray} {p p' : Nat} {ts : List Tok} {W : World} (h : SC b B s ts W) (hk : W.heap[k]? = some (.stringIter x p)) (hb : k ≠ b) : SC b B s ts (W.iterAt k x p') := by
  obtain ⟨v, h1, h2⟩ := h.tok
  have hoth : ∀ j, j ≠ k → (W.iterAt k x p').heap[j]? = W.heap[j]? := fun j hj => Lib.iterAt_other W k j x p' hj
  refine ⟨(World.cell?_of_block (hoth b (Ne.symm hb))).trans h.src, ⟨v, (World.cell?_of_block (hoth b (Ne.symm hb))).trans h1, h2.1, ?_⟩, (World.frozen?_of_block (hoth b (Ne.symm hb))).trans h.free, h.lt.1, by rw [Lib.iterAt_size]; exact h.lt.2⟩
  rcases h2.2 with h2 | ⟨g, cap, cur, g1, g2, g3, r⟩
  · exact .inl h2
  · refine .inr ⟨g, cap, cur, g1, g2, ?_, r⟩
    rw [hoth g (fun e => by rw [e, hk] at g3; cases g3)]; exact g3

theorem Tryz.info56 : (Tryz.prog.info? 56).map (fun i => (i.zero, i.size, i.bytes)) = some (some (.agg #[.int .i64 0, .string ⟨#[]⟩, .int .i64 0, .int .i64 0]), 4, 40) := by kernel_rfl

theorem SC.added {b B n : Nat} {s : ByteArray} {ts : List Tok} {t : Tok} {W w : World} {v v' : Value} (h : SC b B s ts W) (K : Kp b B W w) (hs : w.cell? ⟨b, 0, none⟩ = some (.string s)) (hv : w.cell? ⟨b, 1, none⟩ = some v) (hf : w.frozen? ⟨b, 1, none⟩ = false)
    (hn : n = (ts ++ [t]).length) (hown : w.ownsRow B 56 4 v' n (cellsT ts ++ cellT t)) : SC b B s (ts ++ [t]) (w.setCell ⟨b, 1, none⟩ v') ∧ Kp b B W (w.setCell ⟨b, 1, none⟩ v') := by
  subst hn
  refine ⟨⟨?_, ⟨v', World.cell?_setCell_same _ _ _ hv, ?_⟩, ?_, h.lt.1, ?_⟩, K.setCell _⟩
  · rw [World.cell?_setCell_other _ _ _ _ (fun e => by injection e with e1 e2; cases e2)]; exact hs
  · rw [cellsT_snoc]; exact ownsRow_setCell_below hown (by exact h.lt.1) _
  · simpa using hf
  · rw [size_set]; exact Nat.le_trans h.lt.2 K.size
theorem Kp.undrew {b B : Nat} {a w : World} (h : Kp b B a.drew w) : Kp b B a w := ⟨h.os, h.tape, h.output, h.size, h.block⟩

set_option maxRecDepth 100000 in
set_option maxHeartbeats 3200000 in
theorem add_any (b B : Nat) (s : ByteArray) (ts : List Tok) (W : World) (h : SC b B s ts W) (k n : Int) (p q : Nat) (hp : p ≤ q) (hq : q ≤ s.size) (hs : s.size ≤ 20000) (hn : ts.length ≤ 20000) :
    Calls Tryz.prog 28 #[.pointer (some ⟨b, 0, none⟩), .int .i64 k, .int .i64 p, .int .i64 q, .int .i64 n] W fun e W' => e = .returned (.tuple #[]) ∧ SC b B s (ts ++ [⟨k, (s.data.toList.drop p).take (q - p), n, p⟩]) W' ∧ Kp b B W W' := by
  obtain ⟨i0, hi0, hz0, hz1, hz2⟩ := info_parts Tryz.info56
  obtain ⟨v, hv, hown⟩ := h.tok
  obtain ⟨a0, c0, rfl⟩ := slice_shape hown
  have hsrc := h.src
  have hfr := h.free
  obtain ⟨hbB, hBW⟩ := h.lt
  have hlt : b < W.heap.size := by omega
  have hx : Hid (s.extract p q = ⟨((s.data.toList.drop p).take (q - p)).toArray⟩) := by
    apply ByteArray.ext
    apply Array.toList_inj.1
    simp
  have hxz : (s.extract p q).size ≤ 281474976710656 := by rw [ByteArray.size_extract]; omega
  have p0 : (0 : Int) ≤ (p : Int) := Int.natCast_nonneg _
  have p1 : (p : Int) ≤ (q : Int) := by omega
  have p2 : (q : Int) ≤ (s.size : Int) := by omega
  have hne : some b ≠ (Value.slice a0 ts.length c0).ownBlock := fun e => by have := (hown.lt b e.symm).1; omega
  have hrow : ∀ j, (Value.slice a0 ts.length c0).ownBlock = some j → B ≤ j := fun j e => (hown.lt j e).1
  go_enter Tryz.func28, Tryz.ntmps28
  go_wp2_with fail
  go_region_law
    (first
      | (refine step_go (by rfl) 51 _ _ (by rfl) _ (by simp [Act.eval, Act.put]) enters45 (clone_any _ _ hxz) (.string (s.extract p q)) (fun e w' h => h.1) ?_; rintro w1 ⟨_, hb1⟩; have hown0' : w1.ownsRow B 56 4 (.slice a0 ts.length c0) ts.length (cellsT ts) := (by first | exact own_below hown hb1 | exact own_below hown.drew hb1); have hsz1 := hb1.size; have hs1a := fun o => alloc_cell (W := w1) (b := b) (by exact Nat.lt_of_lt_of_le hlt hsz1) ((hb1.cell (by exact hlt)).trans hsrc) o; have hv1 : w1.cell? ⟨b, 1, none⟩ = some (.slice a0 ts.length c0) := (hb1.cell (by exact hlt)).trans hv; have hf1 : w1.frozen? ⟨b, 1, none⟩ = false := (hb1.frozen (by exact hlt)).trans hfr; have hv1a := fun o => alloc_cell (W := w1) (b := b) (by exact Nat.lt_of_lt_of_le hlt hsz1) hv1 o; have hf1a := fun o => alloc_frozen (W := w1) (b := b) (by exact Nat.lt_of_lt_of_le hlt hsz1) hf1 o; try simp at hsz1)
      | (have hown0 := hown0'; refine step_append_lies _ (by rfl) _ _ _ (by rfl) B 56 i0 _ 4 40 Tryz.underlying36 hi0 hz0 hz1 hz2 rfl (by omega) (.slice a0 ts.length c0) ts.length (cellsT ts) (by rfl) (by first | exact (hown0.alloc _).drew | exact hown0.alloc _)
          ⟨w1.heap.size, 0, none⟩ 1 1 [.int .i64 k, .string (s.extract p q), .int .i64 n, .int .i64 p] (by rfl) (by rfl) (World.news_of_block (cs := #[.int .i64 k, .string (s.extract p q), .int .i64 n, .int .i64 p]) (t := 56) (fr := (0, 0)) (heap_alloc_new w1 _)) (by simp [Value.oneCell'])
          (by omega) (by unfold maxLen; omega) (by omega) (by simp; omega) (w1.heap.size + 1) (by simp) ?_; intro gg cap w2 hown1 hgrow hat hlt2; have hs2 : w2.cell? ⟨b, 0, none⟩ = some (.string s) := (hgrow.cell_far ⟨b, 0, none⟩ (by simp; omega) hne).trans (hs1a _); have hv2 : w2.cell? ⟨b, 1, none⟩ = some (.slice a0 ts.length c0) := (hgrow.cell_far ⟨b, 1, none⟩ (by simp; omega) hne).trans (hv1a _); have hf2 : w2.frozen? ⟨b, 1, none⟩ = false := (hgrow.frozen_far ⟨b, 1, none⟩ (by simp; omega) hne).trans (hf1a _)))
  all_goals
    go_wp2
    go_end0
    have K0 : Kp b B W w1 := (Kp.of_below (b := b) (B := B) hb1 (by exact hBW)).undrew
    have K2 : Kp b B W w2 := (K0.alloc (by omega) _).grown hgrow (by simp; omega) hrow
    rw [hx.out] at hown1
    exact ⟨rfl, h.added K2 hs2 hv2 hf2 (by simp) hown1⟩

end Go.Proofs.YtlgkfhipobdcfabGreatDoor

/- The walks of name, number and sign: a token at its place, or the refusal. -/
namespace Go.Proofs.YtlgkfhipobdcfabGreatDoor
open Go.RowKit

/-- The text from a byte on. -/
def LD (s : ByteArray) (p : Nat) : List UInt8 := s.data.toList.drop p
theorem LD_len (s : ByteArray) (p : Nat) : (LD s p).length = s.size - p := by unfold LD; rw [List.length_drop, Array.length_toList]; rfl
theorem ext_LD (s : ByteArray) (p n : Nat) : (s.extract p (p + n)).data.toList = (LD s p).take n := by unfold LD; simp
theorem ext_end (s : ByteArray) (p : Nat) : (s.extract p s.size).data.toList = LD s p := Lib.extract_to_end s p

theorem ext_size (s : ByteArray) (p q : Nat) (hs : s.size ≤ 20000) : (s.extract p q).size ≤ maxLen := by rw [ByteArray.size_extract]; unfold maxLen; omega

set_option maxHeartbeats 1000000 in
theorem name_bad (b B : Nat) (s : ByteArray) (ts : List Tok) (W : World) (h : SC b B s ts W) (p : Nat) (hp : p < s.size) (hs : s.size ≤ 20000) (hn : 40 < spn inNm (LD s p)) :
    Calls Tryz.prog 46 #[.pointer (some ⟨b, 0, none⟩), .int .i64 p] W fun e W' => e = refu 14 p ∧ Kp b B W W' := by
  have hsrc := h.src
  have C1 := fun w => span_any (s.extract p s.size) 71 inNm enters52 (fun r w hr => inName_any r w hr) w (by have := ext_size s p s.size hs; unfold maxLen at this; omega)
  rw [ext_end] at C1
  have hl := spn_le inNm (LD s p)
  rw [LD_len] at hl
  obtain ⟨n, hnn⟩ : ∃ n, spn inNm (LD s p) = n := ⟨_, rfl⟩
  rw [hnn] at C1 hn hl
  have hB := h.lt.2
  clear hnn
  go_enter Tryz.func46, Tryz.ntmps46
  go_wp2_with (first | (go_at_call 43; refine (C1 _).mono ?_; rintro e w1 ⟨rfl, hb⟩) | (go_at_call 72; refine (refuse_any _ _ _).mono ?_; rintro e w' ⟨he, rfl⟩; unfold refu at he; subst he))
  exact ⟨rfl, rfl, Kp.of_below hb hB⟩

set_option maxHeartbeats 1000000 in
theorem name_ok (b B : Nat) (s : ByteArray) (ts : List Tok) (W : World) (h : SC b B s ts W) (p : Nat) (hp : p < s.size) (hs : s.size ≤ 20000) (hts : ts.length ≤ p) (hn : ¬ 40 < spn inNm (LD s p)) :
    Calls Tryz.prog 46 #[.pointer (some ⟨b, 0, none⟩), .int .i64 p] W fun e W' => e = .returned (.int .i64 ((p + spn inNm (LD s p) : Nat) : Int)) ∧
      SC b B s (ts ++ [⟨if wordB ((LD s p).take (spn inNm (LD s p))) then 2 else 1, (LD s p).take (spn inNm (LD s p)), 0, p⟩]) W' ∧ Kp b B W W' := by
  have hsrc := h.src
  have C1 := fun w => span_any (s.extract p s.size) 71 inNm enters52 (fun r w hr => inName_any r w hr) w (by have := ext_size s p s.size hs; unfold maxLen at this; omega)
  rw [ext_end] at C1
  have hl := spn_le inNm (LD s p)
  rw [LD_len] at hl
  obtain ⟨n, hnn⟩ : ∃ n, spn inNm (LD s p) = n := ⟨_, rfl⟩
  rw [hnn] at C1 hn hl ⊢
  have hB := h.lt
  have C2 := fun w => isWord_any (s.extract p (p + n)) w
  rw [ext_LD] at C2
  have C3 := fun k w (hw : SC b B s ts w) => add_any b B s ts w hw k 0 p (p + n) (by omega) (by omega) hs (by omega)
  have et : (s.data.toList.drop p).take (p + n - p) = (LD s p).take n := by unfold LD; congr 1; omega
  rw [et] at C3
  clear hnn et
  cases hw : wordB ((LD s p).take n)
  all_goals
    rw [hw] at C2
    go_enter Tryz.func46, Tryz.ntmps46
    go_wp2_with (first
      | (go_at_call 43; refine (C1 _).mono ?_; rintro e w1 ⟨rfl, hb⟩; have h1 := h.below hb; have hsrc1 := h1.src)
      | (go_at_call 73; refine (C2 _).mono ?_; rintro e w' ⟨rfl, rfl⟩)
      | (go_at_call 28; refine (C3 _ _ h1).mono ?_; rintro e w2 ⟨rfl, h2, k2⟩))
    go_ret
    exact ⟨rfl, h2, (Kp.of_below hb hB.2).trans k2⟩

set_option maxHeartbeats 1000000 in
theorem number_any (b B : Nat) (s : ByteArray) (ts : List Tok) (V : World) (h : SC b B s ts V) (p : Nat) (hp : p < s.size) (hs : s.size ≤ 20000) (hts : ts.length ≤ p) (e0 v0 : Int) (n : Nat) (hn : spn inNm (LD s p) = n) (he : W.parE ((LD s p).take n) = e0) (hv : W.parN ((LD s p).take n) = v0) :
    Calls Tryz.prog 48 #[.pointer (some ⟨b, 0, none⟩), .int .i64 p] V fun e W' => (e0 ≠ 0 → e = refu e0 p ∧ Kp b B V W') ∧ (e0 = 0 → e = .returned (.int .i64 ((p + n : Nat) : Int)) ∧ SC b B s (ts ++ [⟨3, (LD s p).take n, v0, p⟩]) W' ∧ Kp b B V W') := by
  have hsrc := h.src
  have C1 := fun w => span_any (s.extract p s.size) 71 inNm enters52 (fun r w hr => inName_any r w hr) w (by have := ext_size s p s.size hs; unfold maxLen at this; omega)
  rw [ext_end] at C1
  have hl := spn_le inNm (LD s p)
  rw [LD_len] at hl
  rw [hn] at C1 hl
  have hB := h.lt
  have C2 := fun w => W.parse_any (s.extract p (p + n)) w (ext_size s p _ hs)
  rw [ext_LD, he, hv] at C2
  have C3 := fun w (hw : SC b B s ts w) => add_any b B s ts w hw 3 v0 p (p + n) (by omega) (by omega) hs (by omega)
  have et : (s.data.toList.drop p).take (p + n - p) = (LD s p).take n := by unfold LD; congr 1; omega
  rw [et] at C3
  clear hn et he hv
  by_cases hz : e0 = 0
  · subst hz
    go_enter Tryz.func48, Tryz.ntmps48
    go_wp2_with (first
      | (go_at_call 43; refine (C1 _).mono ?_; rintro e w1 ⟨rfl, hb⟩; have h1 := h.below hb; have hsrc1 := h1.src)
      | (go_at_call 74; refine (C2 _).mono ?_; rintro e w' ⟨rfl, rfl⟩)
      | (go_at_call 28; refine (C3 _ h1).mono ?_; rintro e w2 ⟨rfl, h2, k2⟩))
    go_ret
    exact ⟨fun hc => absurd rfl hc, fun _ => ⟨rfl, h2, (Kp.of_below hb hB.2).trans k2⟩⟩
  · have hz' : (e0 != 0) = true := by simpa using hz
    go_enter Tryz.func48, Tryz.ntmps48
    go_wp2_with (first
      | (go_at_call 43; refine (C1 _).mono ?_; rintro e w1 ⟨rfl, hb⟩; have h1 := h.below hb; have hsrc1 := h1.src)
      | (go_at_call 74; refine (C2 _).mono ?_; rintro e w' ⟨rfl, rfl⟩)
      | (go_at_call 72; refine (refuse_any _ _ _).mono ?_; rintro e w' ⟨he, rfl⟩; unfold refu at he; subst he))
    exact ⟨rfl, fun _ => ⟨rfl, Kp.of_below hb hB.2⟩, fun hc => absurd hc hz⟩

set_option maxHeartbeats 1000000 in
theorem sign_any (b B : Nat) (s : ByteArray) (ts : List Tok) (V : World) (h : SC b B s ts V) (p : Nat) (hp : p < s.size) (hs : s.size ≤ 20000) (hts : ts.length ≤ p) (n : Nat) (hn : sgz (LD s p) = n) :
    Calls Tryz.prog 50 #[.pointer (some ⟨b, 0, none⟩), .int .i64 p] V fun e W' => (n = 0 → e = refu 4 p ∧ Kp b B V W') ∧ (n ≠ 0 → e = .returned (.int .i64 ((p + n : Nat) : Int)) ∧ SC b B s (ts ++ [⟨5, (LD s p).take n, 0, p⟩]) W' ∧ Kp b B V W') := by
  have hsrc := h.src
  have C1 := fun w => signSize_any (s.extract p s.size) w (by rw [ByteArray.size_extract]; omega) (by have := ext_size s p s.size hs; unfold maxLen at this; omega)
  rw [ext_end, hn] at C1
  have hl := (sgz_le (LD s p))
  rw [LD_len, hn] at hl
  have hB := h.lt
  have C3 := fun w (hw : SC b B s ts w) => add_any b B s ts w hw 5 0 p (p + n) (by omega) (by omega) hs (by omega)
  have et : (s.data.toList.drop p).take (p + n - p) = (LD s p).take n := by unfold LD; congr 1; omega
  rw [et] at C3
  clear hn et
  by_cases hz : n = 0
  · subst hz
    go_enter Tryz.func50, Tryz.ntmps50
    go_wp2_with (first
      | (go_at_call 77; refine (C1 _).mono ?_; rintro e w' ⟨rfl, rfl⟩)
      | (go_at_call 72; refine (refuse_any _ _ _).mono ?_; rintro e w' ⟨he, rfl⟩; unfold refu at he; subst he))
    exact ⟨rfl, fun _ => ⟨rfl, Kp.refl _ _ _⟩, fun hc => absurd rfl hc⟩
  · have hz' : ((n : Int) == 0) = false := by simpa using hz
    go_enter Tryz.func50, Tryz.ntmps50
    go_wp2_with (first
      | (go_at_call 77; refine (C1 _).mono ?_; rintro e w' ⟨rfl, rfl⟩)
      | (go_at_call 28; refine (C3 _ h).mono ?_; rintro e w2 ⟨rfl, h2, k2⟩))
    go_ret
    exact ⟨fun hc => absurd hc hz, fun _ => ⟨rfl, h2, k2⟩⟩

end Go.Proofs.YtlgkfhipobdcfabGreatDoor

/- What is encoded decodes to itself; the walk of the law RunesCodes. -/
namespace Go.Proofs.YtlgkfhipobdcfabGreatDoor
open Go.RowKit

theorem enc_bytes (r : Int) (h : encB r = true) : Utf8.encode r = ⟨((encL r.toNat).map UInt8.ofNat).toArray⟩ := by
  have := encode_list r h
  rw [ByteArray.toList_eq] at this
  rw [← this]

theorem decL (l : List Nat) (i : Nat) (hl : ∀ x ∈ l, x < 256) : ((⟨(l.map UInt8.ofNat).toArray⟩ : ByteArray).get! i).toNat = l.getD i 0 := by
  rw [get_data]
  simp only [List.getD, List.getElem?_map]
  cases h : l[i]? with
  | none => simp
  | some x =>
    have := hl x (List.mem_of_getElem? h)
    simp; omega

set_option maxHeartbeats 2000000 in
theorem decN_enc (r : Nat) (h : r ≤ 1114111) (hs : r < 55296 ∨ 57343 < r) : Lib.decodeN (encL r).length ((encL r).getD 0 0) ((encL r).getD 1 0) ((encL r).getD 2 0) ((encL r).getD 3 0) = (r, (encL r).length) := by
  unfold encL
  split
  · simp [Lib.decodeN]; omega
  · split
    · simp only [List.length_cons, List.length_nil, List.getD_cons_zero, List.getD_cons_succ]
      unfold Lib.decodeN
      rw [if_neg (by omega), if_pos (by omega), if_pos (by omega)]
      congr 1
      omega
    · split
      · simp only [List.length_cons, List.length_nil, List.getD_cons_zero, List.getD_cons_succ]
        unfold Lib.decodeN
        rw [if_neg (by omega), if_neg (by omega), if_pos (by omega), if_pos (by omega)]
        congr 1
        omega
      · simp only [List.length_cons, List.length_nil, List.getD_cons_zero, List.getD_cons_succ]
        unfold Lib.decodeN
        rw [if_neg (by omega), if_neg (by omega), if_neg (by omega), if_pos (by omega), if_pos (by omega)]
        congr 1
        omega

theorem encL_len (r : Nat) : 1 ≤ (encL r).length ∧ (encL r).length ≤ 4 ∧ (r = 65533 → (encL r).length = 3) := by
  unfold encL
  repeat' split
  all_goals (simp; try omega)

theorem enc_size (r : Int) (h : encB r = true) : (Utf8.encode r).size = (encL r.toNat).length := by
  rw [enc_bytes r h]; simp [ByteArray.size]

theorem dec_enc (r : Int) (h : encB r = true) : Utf8.decode (Utf8.encode r) 0 = (r.toNat, (encL r.toNat).length) := by
  have hb := (encB_iff r).1 h
  have hl := encL_lt r.toNat (by omega)
  rw [Lib.decode_at, enc_size r h, enc_bytes r h]
  rw [decL _ _ hl, decL _ _ hl, decL _ _ hl, decL _ _ hl]
  exact decN_enc r.toNat (by omega) (by omega)

/-- The runes of an encoding: the one. -/
theorem rest_enc (r : Int) (h : encB r = true) : rest (encS r) 0 = [(0, (encL r.toNat).length, r.toNat)] := by
  have he : encS r = Utf8.encode r := by simp [encS, h]
  have hl := encL_len r.toNat
  have hd := dec_enc r h
  rw [he, rest_at _ _ (by rw [enc_size r h]; omega)]
  unfold wd rn
  rw [hd, rest_end _ _ (by rw [enc_size r h]; simp)]

theorem str_enc (r : Int) (h : encB r = true) (xs : List Int) (hx : xs.map Int.toNat = encL r.toNat) : strOfNums xs = encS r := by
  have he : encS r = Utf8.encode r := by simp [encS, h]
  rw [he, enc_bytes r h, ← hx]
  simp [strOfNums]

theorem encS_size (r : Int) (h : encB r = true) : (encS r).size = (encL r.toNat).length := by
  have he : encS r = Utf8.encode r := by simp [encS, h]
  rw [he, enc_size r h]

theorem dec_c (r : Int) (h : encB r = true) (w : World) : Calls Tryz.prog 105 #[.string (encS r), .int .i64 0] w fun e w' => e = .returned (.tuple #[.agg #[.int .i64 0, .int .i64 (encS r).size, .int .i64 r], .int .i64 0]) ∧ Below w.heap.size w w' := by
  have he : encS r = Utf8.encode r := by simp [encS, h]
  have hb := (encB_iff r).1 h
  have hl := encL_len r.toNat
  have hz := encS_size r h
  have hd := dec_enc r h
  have hw : wd (encS r) 0 = (encS r).size := by unfold wd; rw [hz, he, hd]
  have hr : ((rn (encS r) 0 : Nat) : Int) = r := by unfold rn; rw [he, hd]; simp; omega
  have := decode_yes (encS r) 0 w (by omega) (by omega)
  rw [hw, hr] at this
  exact this
theorem bel_on {w a b : World} (h : Below w.heap.size w a) (k : Below a.heap.size a b) : Below w.heap.size w b := h.trans (k.mono h.size)
theorem bel_new {w a : World} (h : Below w.heap.size w a) (o : Obj) : Below w.heap.size w (a.alloc o) := h.alloc h.size o

end Go.Proofs.YtlgkfhipobdcfabGreatDoor
