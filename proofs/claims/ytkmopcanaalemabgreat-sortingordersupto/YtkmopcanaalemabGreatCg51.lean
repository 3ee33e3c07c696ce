/- The walks of the reference's Both, and of its Order of two Ints. -/
import Derived.Test.YtkmopcanaalemabGreatCg50
import Derived.StillTactics
import Derived.Test.YtkmopcanaalemabGreatCg49
import Derived.Test.YtkmopcanaalemabGreatCg47
namespace Go.Proofs.YtkmopcanaalemabGreat
open Go.RowKit

set_option maxRecDepth 20000 in
set_option maxHeartbeats 4000000 in
theorem rboth_fm (x y : V) (hx : fm x = true) (hy : fm y = true) (w : World) : Calls Tryz.prog 39 #[.agg #[.int .i64 x.1, .int .i64 x.2.1, .string x.2.2], .agg #[.int .i64 y.1, .int .i64 y.2.1, .string y.2.2]] w fun e w' => e = .returned (.int .i64 0) ∧ Below w.heap.size w w' := by
  have B0 := b2 w (vb x.1 x.2.1 x.2.2) (vb y.1 y.2.1 y.2.2)
  have X := (Bx.made w x).below (b1 (w.alloc (vb x.1 x.2.1 x.2.2)) (vb y.1 y.2.1 y.2.2))
  have Y := Bx.made (w.alloc (vb x.1 x.2.1 x.2.2)) y
  have z : (w.alloc (vb x.1 x.2.1 x.2.2)).heap.size = w.heap.size + 1 := by simp
  rw [z] at Y
  obtain ⟨W0, hW0⟩ : ∃ W0, (w.alloc (vb x.1 x.2.1 x.2.2)).alloc (vb y.1 y.2.1 y.2.2) = W0 := ⟨_, rfl⟩
  rw [hW0] at B0 X Y
  have hcx : chk x.1 x.2.1 x.2.2 = 0 := by show (if fm x = true then (0 : Int) else 2) = 0; rw [if_pos hx]
  have hcy : chk y.1 y.2.1 y.2.2 = 0 := by show (if fm y = true then (0 : Int) else 2) = 0; rw [if_pos hy]
  have C1 := rcheck_any x.1 x.2.1 x.2.2 W0
  rw [hcx] at C1
  have B1 := b1 W0 (vb x.1 x.2.1 x.2.2)
  obtain ⟨W1, hW1⟩ : ∃ W1, W0.alloc (vb x.1 x.2.1 x.2.2) = W1 := ⟨_, rfl⟩
  rw [hW1] at C1 B1
  have Y1 := Y.below B1
  have C2 := rcheck_any y.1 y.2.1 y.2.2 W1
  rw [hcy] at C2
  have B2 := b1 W1 (vb y.1 y.2.1 y.2.2)
  obtain ⟨W2, hW2⟩ : ∃ W2, W1.alloc (vb y.1 y.2.1 y.2.2) = W2 := ⟨_, rfl⟩
  rw [hW2] at C2 B2
  have HB : Hid (Below w.heap.size w W2) := by
    have c1 := bthen B0 B0.size B1
    exact bthen c1 c1.size B2
  have x0 := X.c0
  have x1 := X.c1
  have x2 := X.c2
  have y0 := Y1.c0
  have y1 := Y1.c1
  have y2 := Y1.c2
  unfold vl at C1 C2
  unfold vb at hW0
  clear B0 B1 B2 X Y Y1 z hcx hcy
  go_enter Tryz.func39, Tryz.ntmps39
  go_wp2_with fail
  refine C1.mono ?_; rintro e w1 ⟨rfl, hw1⟩; rw [hw1]; clear hw1 C1
  go_wp2_with fail
  refine C2.mono ?_; rintro e w2 ⟨rfl, hw2⟩; rw [hw2]; clear hw2 C2
  go_wp2
  go_ret
  exact ⟨rfl, HB.out⟩
set_option maxRecDepth 20000 in
set_option maxHeartbeats 4000000 in
theorem rorder_int (x y : Int) (w : World) : Calls Tryz.prog 19 #[.agg #[.int .i64 2, .int .i64 x, .string ⟨#[]⟩], .agg #[.int .i64 2, .int .i64 y, .string ⟨#[]⟩]] w fun e w' => e = .returned (.tuple #[.int .i64 (cmpI x y), .int .i64 0]) ∧ Below w.heap.size w w' := by
  have B0 := b2 w (vb 2 x ⟨#[]⟩) (vb 2 y ⟨#[]⟩)
  have X := (Bx.made w (kn x)).below (b1 (w.alloc (vb 2 x ⟨#[]⟩)) (vb 2 y ⟨#[]⟩))
  have Y := Bx.made (w.alloc (vb 2 x ⟨#[]⟩)) (kn y)
  have z : (w.alloc (vb 2 x ⟨#[]⟩)).heap.size = w.heap.size + 1 := by simp
  rw [z] at Y
  obtain ⟨W0, hW0⟩ : ∃ W0, (w.alloc (vb 2 x ⟨#[]⟩)).alloc (vb 2 y ⟨#[]⟩) = W0 := ⟨_, rfl⟩
  rw [hW0] at B0 X Y
  have C1 := rboth_fm (kn x) (kn y) (fm_kn x) (fm_kn y) W0
  have HXY : Hid ((Bx W0 w.heap.size (kn x) ∧ Bx W0 (w.heap.size + 1) (kn y)) ∧ Below w.heap.size w W0) := ⟨⟨X, Y⟩, B0⟩
  have x0 := X.c0
  have x1 := X.c1
  have x2 := X.c2
  have y0 := Y.c0
  have y1 := Y.c1
  have y2 := Y.c2
  unfold vb at hW0
  simp only at C1
  clear B0 X Y z
  unfold cmpI
  by_cases h1 : x < y
  · rw [if_pos h1]
    go_enter Tryz.func19, Tryz.ntmps19
    go_wp2_with fail
    refine C1.mono ?_; rintro e w1 ⟨rfl, hb1⟩
    obtain ⟨⟨X1, Y1⟩, B1⟩ := HXY.out
    have X2 := X1.below hb1
    have Y2 := Y1.below hb1
    have HB : Hid (Below w.heap.size w w1) := bthen B1 B1.size hb1
    have a0 := X2.c0
    have a1 := X2.c1
    have b0 := Y2.c0
    have b1' := Y2.c1
    clear C1 hb1 X1 Y1 B1 X2 Y2 HXY
    go_wp2
    exact bodyPost_ret (v := .tuple #[.int .i64 (-1), .int .i64 0]) (by simp [results, Tryz.results19, go_sem]) rfl ⟨rfl, HB.out⟩
  · rw [if_neg h1]
    by_cases h2 : y < x
    · rw [if_pos h2]
      go_enter Tryz.func19, Tryz.ntmps19
      go_wp2_with fail
      refine C1.mono ?_; rintro e w1 ⟨rfl, hb1⟩
      obtain ⟨⟨X1, Y1⟩, B1⟩ := HXY.out
      have X2 := X1.below hb1
      have Y2 := Y1.below hb1
      have HB : Hid (Below w.heap.size w w1) := bthen B1 B1.size hb1
      have a0 := X2.c0
      have a1 := X2.c1
      have b0 := Y2.c0
      have b1' := Y2.c1
      clear C1 hb1 X1 Y1 B1 X2 Y2 HXY
      go_wp2
      exact bodyPost_ret (v := .tuple #[.int .i64 1, .int .i64 0]) (by simp [results, Tryz.results19, go_sem]) rfl ⟨rfl, HB.out⟩
    · rw [if_neg h2]
      go_enter Tryz.func19, Tryz.ntmps19
      go_wp2_with fail
      refine C1.mono ?_; rintro e w1 ⟨rfl, hb1⟩
      obtain ⟨⟨X1, Y1⟩, B1⟩ := HXY.out
      have X2 := X1.below hb1
      have Y2 := Y1.below hb1
      have HB : Hid (Below w.heap.size w w1) := bthen B1 B1.size hb1
      have a0 := X2.c0
      have a1 := X2.c1
      have b0 := Y2.c0
      have b1' := Y2.c1
      clear C1 hb1 X1 Y1 B1 X2 Y2 HXY
      go_wp2
      exact bodyPost_ret (v := .tuple #[.int .i64 0, .int .i64 0]) (by simp [results, Tryz.results19, go_sem]) rfl ⟨rfl, HB.out⟩
end Go.Proofs.YtkmopcanaalemabGreat

/- The walk of the reference's Order of two Strs. -/
namespace Go.Proofs.YtkmopcanaalemabGreat
open Go.RowKit

structure At (w : World) (g : Nat) (k n : Int) (s : ByteArray) : Prop where
  k : w.cell? ⟨g, 0, none⟩ = some (.int .i64 k)
  n : w.cell? ⟨g, 1, none⟩ = some (.int .i64 n)
  s : w.cell? ⟨g, 2, none⟩ = some (.string s)
  lt : g < w.heap.size
theorem At.new (w : World) (k n : Int) (s : ByteArray) : At (w.alloc (vb k n s)) w.heap.size k n s := by
  refine ⟨?_, ?_, ?_, by simp⟩ <;> simp [go_sem]
theorem At.below {w w' : World} {g : Nat} {k n : Int} {s : ByteArray} (h : At w g k n s) (b : Below w.heap.size w w') : At w' g k n s :=
  ⟨(b.cell (p := ⟨g, 0, none⟩) h.lt).trans h.k, (b.cell (p := ⟨g, 1, none⟩) h.lt).trans h.n, (b.cell (p := ⟨g, 2, none⟩) h.lt).trans h.s, Nat.lt_of_lt_of_le h.lt b.size⟩
theorem At.alloc {w : World} {g : Nat} {k n : Int} {s : ByteArray} (h : At w g k n s) (o : Obj) : At (w.alloc o) g k n s := h.below ((Below.refl _ w).alloc (Nat.le_refl _) o)

/-- The order of two texts, byte by byte, by recursion. -/
def cL : List UInt8 → List UInt8 → Int
  | [], [] => 0
  | [], _ :: _ => -1
  | _ :: _, [] => 1
  | c :: l, d :: m => if c.toNat < d.toNat then -1 else if d.toNat < c.toNat then 1 else cL l m
theorem cL_cS (l : List UInt8) : ∀ m, (if Op.bytesLess l m = true then -1 else if (l == m) = true then 0 else 1 : Int) = cL l m := by
  induction l with
  | nil => intro m; cases m <;> simp [Op.bytesLess, cL]
  | cons c l ih =>
    intro m
    cases m with
    | nil => simp [Op.bytesLess, cL]
    | cons d m =>
      have ih := ih m
      unfold cL
      by_cases h1 : c.toNat < d.toNat
      · have h2 : c < d := UInt8.lt_iff_toNat_lt.2 h1
        simp [Op.bytesLess, h1, h2]
      · have h2 : ¬ c < d := fun h => h1 (UInt8.lt_iff_toNat_lt.1 h)
        by_cases h3 : d.toNat < c.toNat
        · have h4 : ¬ c = d := fun e => by rw [e] at h3; omega
          simp [Op.bytesLess, h1, h2, h3, h4]
        · obtain rfl : c = d := UInt8.toNat_inj.1 (by omega)
          rw [if_neg h1, if_neg h3, ← ih]
          simp [Op.bytesLess]
theorem cS_cL (x y : ByteArray) : cS x y = cL x.toList y.toList := cL_cS _ _
theorem tl_eq (s : ByteArray) : s.toList = s.data.toList := ByteArray.toList_eq _
theorem tl_drop (s : ByteArray) (k : Nat) (h : k < s.size) : s.toList.drop k = s[k] :: s.toList.drop (k + 1) := by
  rw [tl_eq]
  have h2 : k < s.data.toList.length := by simpa using h
  rw [List.drop_eq_getElem_cons h2]
  rfl
theorem tl_end (s : ByteArray) (k : Nat) (h : s.size ≤ k) : s.toList.drop k = [] := by
  apply List.drop_of_length_le
  rw [tl_eq]
  simpa using h
theorem cd_lt (s t : ByteArray) (k : Nat) (h : k < s.size) (h' : k < t.size) (q : s[k].toNat < t[k].toNat) : cL (s.toList.drop k) (t.toList.drop k) = -1 := by
  rw [tl_drop s k h, tl_drop t k h', cL, if_pos q]
theorem cd_gt (s t : ByteArray) (k : Nat) (h : k < s.size) (h' : k < t.size) (q : t[k].toNat < s[k].toNat) : cL (s.toList.drop k) (t.toList.drop k) = 1 := by
  rw [tl_drop s k h, tl_drop t k h', cL, if_neg (by omega), if_pos q]
theorem cd_eq (s t : ByteArray) (k : Nat) (h : k < s.size) (h' : k < t.size) (q : s[k].toNat = t[k].toNat) : cL (s.toList.drop k) (t.toList.drop k) = cL (s.toList.drop (k + 1)) (t.toList.drop (k + 1)) := by
  rw [tl_drop s k h, tl_drop t k h', cL, if_neg (by omega), if_neg (by omega)]
theorem cd_lo (s t : ByteArray) (k : Nat) (h : s.size ≤ k) (h' : k < t.size) : cL (s.toList.drop k) (t.toList.drop k) = -1 := by
  rw [tl_end s k h, tl_drop t k h', cL]
theorem cd_hi (s t : ByteArray) (k : Nat) (h : k < s.size) (h' : t.size ≤ k) : cL (s.toList.drop k) (t.toList.drop k) = 1 := by
  rw [tl_end t k h', tl_drop s k h, cL]
theorem cd_nn (s t : ByteArray) (k : Nat) (h : s.size ≤ k) (h' : t.size ≤ k) : cL (s.toList.drop k) (t.toList.drop k) = 0 := by
  rw [tl_end t k h', tl_end s k h, cL]
theorem rett {a b : Int} (h : a = b) (e : Value) : Ending.returned (.tuple #[.int .i64 a, e]) = .returned (.tuple #[.int .i64 b, e]) := by rw [h]
theorem At.drew {w : World} {g : Nat} {k n : Int} {s : ByteArray} (h : At w g k n s) : At w.drew g k n s := h.below (Below.refl _ _).drew

set_option maxRecDepth 20000 in
set_option maxHeartbeats 1000000 in
theorem rorder_ss (s s' : ByteArray) (RB : ∀ w, Calls Tryz.prog 39 #[vl 3 0 s, vl 3 0 s'] w fun e w' => e = .returned (.int .i64 0) ∧ Below w.heap.size w w') (hs : s.size ≤ 10000) (hs' : s'.size ≤ 10000) (w : World) : Calls Tryz.prog 19 #[vl 3 0 s, vl 3 0 s'] w fun e w' => e = .returned (.tuple #[.int .i64 (cS s s'), .int .i64 0]) ∧ Below w.heap.size w w' := by
  unfold vl at *
  go_enter Tryz.func19, Tryz.ntmps19
  go_wp2_with fail
  have A := At.new w 3 0 s
  unfold vb at A
  replace A := A.alloc (.cells #[.int .i64 3, .int .i64 0, .string s'] 36)
  have C := At.new (w.alloc (.cells #[.int .i64 3, .int .i64 0, .string s] 36)) 3 0 s'
  unfold vb at C
  have B := b2 w (.cells #[.int .i64 3, .int .i64 0, .string s] 36) (.cells #[.int .i64 3, .int .i64 0, .string s'] 36)
  simp at C
  generalize ((w.alloc (.cells #[.int .i64 3, .int .i64 0, .string s] 36)).alloc (.cells #[.int .i64 3, .int .i64 0, .string s'] 36)) = w0 at *
  obtain ⟨V, hV⟩ : ∃ V, w.heap.size = V := ⟨_, rfl⟩
  rw [hV] at A C B ⊢
  obtain ⟨A0, A1, A2, Al⟩ := id A
  obtain ⟨C0, C1, C2, Cl⟩ := id C
  refine (RB _).mono ?_
  rintro e w1 ⟨rfl, hb⟩
  replace B := bthen B (by have := A.lt; omega) hb
  replace A := A.below hb
  replace C := C.below hb
  clear A0 A1 A2 Al C0 C1 C2 Cl
  clear hb
  obtain ⟨A0, A1, A2, Al⟩ := id A
  obtain ⟨C0, C1, C2, Cl⟩ := id C
  go_wp2_with fail
  go_loopw [6] (fun i wr => ∃ k : Nat, i = .int .i64 k ∧ k ≤ s.size ∧ k ≤ s'.size ∧ Hid (cS s s' = cL (s.toList.drop k) (s'.toList.drop k)) ∧ Hid (Below V w wr) ∧ Hid (At wr V 3 0 s) ∧ Hid (At wr (V + 1) 3 0 s')) (fun i _ => s.size - (intOf i).toNat)
  case atStart => exact ⟨0, rfl, by omega, by omega, cS_cL s s', B, A, C⟩
  case round =>
    clear A0 A1 A2 Al C0 C1 C2 Cl A C B RB
    obtain ⟨k, rfl, hk, hk', HM, HB, HA, HC⟩ := hrel
    obtain ⟨A0, A1, A2, Al⟩ := id HA.out
    obtain ⟨C0, C1, C2, Cl⟩ := id HC.out
    by_cases hlt : k < s.size
    · by_cases hlt' : k < s'.size
      · rcases Nat.lt_trichotomy s[k].toNat s'[k].toNat with hq | hq | hq
        · have HX : Hid _ := HM.out.trans (cd_lt s s' k hlt hlt' hq)
          have hqi : ((s[k].toNat : Nat) : Int) < ((s'[k].toNat : Nat) : Int) := by omega
          go_wp2
          go_still (by kernel_rfl)
          go_wp2
          go_ret2
          exact ⟨rett HX.out.symm _, hV.symm ▸ HB.out.drew⟩
        · have HX : Hid _ := HM.out.trans (cd_eq s s' k hlt hlt' hq)
          have hqi : ¬ ((s[k].toNat : Nat) : Int) < ((s'[k].toNat : Nat) : Int) := by omega
          have hqj : ¬ ((s'[k].toNat : Nat) : Int) < ((s[k].toNat : Nat) : Int) := by omega
          go_wp2
          refine wp_still_d (by kernel_rfl) (by kernel_rfl) ?_
          repeat still_step
          refine wpStill_nil ?_
          clear A0 A1 A2 Al C0 C1 C2 Cl
          have HA2 : Hid _ := HA.out.drew
          have HC2 : Hid _ := HC.out.drew
          have HB2 : Hid _ := HB.out.drew
          clear HA HC HB
          generalize wr.drew = w2 at *
          obtain ⟨A0, A1, A2, Al⟩ := id HA2.out
          obtain ⟨C0, C1, C2, Cl⟩ := id HC2.out
          go_wp2
          refine wp_still_d (by kernel_rfl) (by kernel_rfl) ?_
          repeat still_step
          refine wpStill_nil ?_
          go_wp2
          go_roundw
          case rel => exact ⟨k + 1, by go_num, by omega, by omega, HX, HB2.out.drew, HA2.out.drew, HC2.out.drew⟩
          case measure => simp [intOf]; omega
        · have HX : Hid _ := HM.out.trans (cd_gt s s' k hlt hlt' hq)
          have hqi : ¬ ((s[k].toNat : Nat) : Int) < ((s'[k].toNat : Nat) : Int) := by omega
          have hqj : ((s'[k].toNat : Nat) : Int) < ((s[k].toNat : Nat) : Int) := by omega
          go_wp2
          refine wp_still_d (by kernel_rfl) (by kernel_rfl) ?_
          repeat still_step
          refine wpStill_nil ?_
          clear A0 A1 A2 Al C0 C1 C2 Cl
          have HA2 : Hid _ := HA.out.drew
          have HC2 : Hid _ := HC.out.drew
          have HB2 : Hid _ := HB.out.drew
          clear HA HC HB
          generalize wr.drew = w2 at *
          obtain ⟨A0, A1, A2, Al⟩ := id HA2.out
          obtain ⟨C0, C1, C2, Cl⟩ := id HC2.out
          go_wp2
          refine wp_still_d (by kernel_rfl) (by kernel_rfl) ?_
          repeat still_step
          refine wpStill_nil ?_
          go_wp2
          go_ret2
          exact ⟨rett HX.out.symm _, hV.symm ▸ HB2.out.drew⟩
      · have HX : Hid _ := HM.out.trans (cd_hi s s' k hlt (by omega))
        go_wp2
        go_ret2
        exact ⟨rett HX.out.symm _, hV.symm ▸ HB.out⟩
    · by_cases hlt' : k < s'.size
      · have HX : Hid _ := HM.out.trans (cd_lo s s' k (by omega) hlt')
        go_wp2
        go_ret2
        exact ⟨rett HX.out.symm _, hV.symm ▸ HB.out⟩
      · have HX : Hid _ := HM.out.trans (cd_nn s s' k (by omega) (by omega))
        go_wp2
        go_ret2
        exact ⟨rett HX.out.symm _, hV.symm ▸ HB.out⟩


theorem fm_size {s : ByteArray} (h : fm (ks s) = true) : s.size ≤ 10000 := by
  simp [fm, inF] at h
  omega
theorem rorder_str (s s' : ByteArray) (h : fm (ks s) = true) (h' : fm (ks s') = true) (w : World) : Calls Tryz.prog 19 #[.agg #[.int .i64 3, .int .i64 0, .string s], .agg #[.int .i64 3, .int .i64 0, .string s']] w fun e w' => e = .returned (.tuple #[.int .i64 (cS s s'), .int .i64 0]) ∧ Below w.heap.size w w' :=
  rorder_ss s s' (fun w => rboth_fm (ks s) (ks s') h h' w) (fm_size h) (fm_size h') w
end Go.Proofs.YtkmopcanaalemabGreat

/- SortingOrders: a table with a row of one kind of values, and the list that it came from. -/
namespace Go.Proofs.YtkmopcanaalemabGreat
open Go.RowKit

/-- An order of some values, that both Orders tell. -/
structure OkO (Gd : V → Prop) (lt : V → V → Bool) : Prop where
  od : U.Od Gd lt
  gv : ∀ v, Gd v → Gv v
  o : ∀ (W : World) (x y : V), Gd x → Gd y → Calls Tryz.prog 38 #[.agg #[.int .i64 x.1, .int .i64 x.2.1, .string x.2.2], .agg #[.int .i64 y.1, .int .i64 y.2.1, .string y.2.2]] W fun e w' => ∃ o : Int, e = .returned (.tuple #[.int .i64 o, .int .i64 0]) ∧ decide (o < 0) = lt x y ∧ Below W.heap.size W w'
  r : ∀ (W : World) (x y : V), Gd x → Gd y → Calls Tryz.prog 19 #[.agg #[.int .i64 x.1, .int .i64 x.2.1, .string x.2.2], .agg #[.int .i64 y.1, .int .i64 y.2.1, .string y.2.2]] W fun e w' => ∃ o : Int, e = .returned (.tuple #[.int .i64 o, .int .i64 0]) ∧ decide (o < 0) = lt x y ∧ Below W.heap.size W w'
theorem gv_i {v : V} (h : Gi v) : Gv v := by
  rw [h]; exact ⟨fm_kn _, by show (2 : Int) ≠ 0; decide⟩
theorem gv_s {v : V} (h : Gtx v) : Gv v := ⟨h.2, by rw [h.1]; show (3 : Int) ≠ 0; decide⟩
theorem ok_int : OkO Gi ltI where
  od := od_int
  gv := fun _ h => gv_i h
  o := fun W x y hx hy => order_gi W x y hx hy
  r := fun W x y hx hy => by
    rw [hx, hy]
    refine (rorder_int x.2.1 y.2.1 W).mono fun e w' hh => ⟨_, hh.1, ?_, hh.2⟩
    unfold cmpI ltI
    split
    · rename_i q; simp [q]
    · rename_i q
      split
      · simp [q]
      · simp [q]
theorem ok_str : OkO Gtx ltV where
  od := od_str
  gv := fun _ h => gv_s h
  o := fun W x y hx hy => order_gs W x y hx hy
  r := fun W x y hx hy => by
    obtain ⟨ex, fx⟩ := hx
    obtain ⟨ey, fy⟩ := hy
    rw [ex] at fx ⊢
    rw [ey] at fy ⊢
    exact (rorder_str x.2.2 y.2.2 fx fy W).mono fun e w' hh => ⟨_, hh.1, cS_lt _ _, hh.2⟩
theorem hd_sub {n : Nat} {Gd : V → Prop} (hn : n ≤ 65536) (hg : ∀ v, Gd v → Gv v) : U.Hd n Gd (fun t s f => Mt n t s f ∧ ∀ k, 1 ≤ k → k ≤ (n : Int) → Gd (f k)) where
  gd := fun _ _ _ k h h1 h2 => h.2 k h1 h2
  rd := fun t s f k h h1 h2 => (hd_mt hn).rd t s f k h.1 h1 h2
  pr := fun t s f r h => ⟨(hd_mt hn).pr t s f r h.1, h.2⟩
  st := fun t s f k v h h1 h2 hv => by
    obtain ⟨e0, e1⟩ := (hd_mt hn).st t s f k v h.1 h1 h2 (hg v hv)
    refine ⟨e0, e1, fun j j1 j2 => ?_⟩
    unfold U.sw1
    split
    · exact hv
    · exact h.2 j j1 j2
/-- The first values of a list. -/
theorem Lv.less {w : World} {B : Nat} {a : Option Addr} {L c m : Nat} {F : Nat → V} (h : Lv w B (.slice a L c) L F) (hm : m ≤ L) : Lv w B (.slice a m c) m F := by
  rcases h.own.2 with ⟨e, e2⟩ | ⟨g, cap, cur, e, h2, h3, h4, h5, h6, h7⟩
  · obtain rfl : m = 0 := by omega
    injection e with e1 e2 e3
    subst e1 e3
    exact Lv.nil _ _ _
  · injection e with e1 e2 e3
    subst e1 e3
    refine ⟨⟨cellsV_len F m, .inr ⟨g, c, cur, rfl, h2, h3, by omega, h5, h6, ?_⟩⟩⟩
    have e4 : cur.toList.take (m * 3) = (cur.toList.take (L * 3)).take (m * 3) := by rw [List.take_take]; congr 1; omega
    rw [e4, h7]
    apply List.ext_getElem?
    intro j
    rw [List.getElem?_take]
    by_cases hj : j < m * 3
    · rw [if_pos hj, cellsV_at F L j (by omega), cellsV_at F m j hj]
    · rw [if_neg hj, List.getElem?_eq_none (by rw [cellsV_len]; omega)]
theorem Lv.app3 {w : World} {B : Nat} {v : Value} {n : Nat} {F : Nat → V} (h : Lv w B v n F) {b : Nat} (x : V) (hx : Bx w b x) (hn : n ≤ 1100000) (hB : B ≤ w.heap.size) :
    ∃ g c w', (Builtin.append_ #[22, 22] 22 #[v, .slice (some ⟨b, 0, none⟩) 1 1]).run Tryz.prog w = .ok (.slice (some ⟨g, 0, none⟩) (n + 1) c) w' ∧ Lv w' B (.slice (some ⟨g, 0, none⟩) (n + 1) c) (n + 1) (upd F n x) ∧ w.grownBy w' v.ownBlock ∧ (v.ownBlock = some g ∨ g = w.heap.size) ∧ g < w'.heap.size := by
  obtain ⟨i0, hi, hz0, hz1, hz2⟩ := info_parts info32
  obtain ⟨g, c, w', h1, h2, h3, h4, h5⟩ := run_append_lies (P := Tryz.prog) w 22 22 B 36 i0 (vl 0 0 ⟨#[]⟩) 3 32 Tryz.underlying22 hi hz0 hz1 hz2 rfl (by omega) v n (cellsV F n) h.own ⟨b, 0, none⟩ 1 1 [.int .i64 x.1, .int .i64 x.2.1, .string x.2.2] rfl (fun j u hu => by
    have hadd : (⟨b, 0, none⟩ : Addr).add j = ⟨b, j, none⟩ := by unfold Addr.add; split <;> simp_all
    rw [hadd]
    have hj : j < 3 := (List.getElem?_eq_some_iff.1 hu).1
    rcases lt3 hj with rfl | rfl | rfl
    · simp at hu; rw [← hu]; exact hx.c0
    · simp at hu; rw [← hu]; exact hx.c1
    · simp at hu; rw [← hu]; exact hx.c2) (by intro u hu; simp at hu; rcases hu with rfl | rfl | rfl <;> rfl) (by omega) (by simp only [maxLen]; omega) (by omega) hB _ rfl
  exact ⟨g, c, w', h1, ⟨by rw [← cellsV_snoc]; exact h2⟩, h3, h4, h5⟩
theorem Lv.push3 {w0 w : World} {B : Nat} {v : Value} {n : Nat} {F : Nat → V} (hb : Below B w0 w) (hB : B ≤ w.heap.size) (h : Lv w B v n F) (x : V) (hn : n ≤ 1100000) :
    ∃ g c w', (Builtin.append_ #[22, 22] 22 #[v, .slice (some ⟨w.heap.size, 0, none⟩) 1 1]).run Tryz.prog (w.alloc (.cells #[.int .i64 x.1, .int .i64 x.2.1, .string x.2.2] 36)) = .ok (.slice (some ⟨g, 0, none⟩) (n + 1) c) w' ∧ Lv w' B (.slice (some ⟨g, 0, none⟩) (n + 1) c) (n + 1) (upd F n x) ∧ Below B w0 w' := by
  have b5 := b1 w (.cells #[.int .i64 x.1, .int .i64 x.2.1, .string x.2.2] 36)
  have X5 : Bx (w.alloc (.cells #[.int .i64 x.1, .int .i64 x.2.1, .string x.2.2] 36)) w.heap.size x := Bx.made w x
  obtain ⟨g, c, w6, hr, l6, g6, at6, lt6⟩ := (h.below b5).app3 x X5 hn (by have := b5.size; omega)
  refine ⟨g, c, w6, hr, l6, (bthen hb hB b5).trans ⟨g6.os, g6.tape, g6.output, g6.size, fun y hy => g6.block y (by have := b5.size; omega) (fun e => ?_)⟩⟩
  have := (h.own.lt y e.symm).1
  omega
/-- A table and a list. -/
structure S1 (w0 w : World) (No : Nat → Prop) (Gd : V → Prop) (T S hb c n : Nat) (f : Int → V) (G0 : Nat) (a : Option Addr) (L cp : Nat) (F : Nat → V) : Prop where
  ex : ∃ (A b a : Nat) (t : TS) (s : H.St), TT No w T A b a S hb c t s ∧ Mt n t s f ∧ ∀ k, 1 ≤ k → k ≤ (n : Int) → Gd (f k)
  l : Lv w G0 (.slice a L cp) L F
  nl : ∀ g, (Value.slice a L cp).ownBlock = some g → No g
  k : Below w0.heap.size w0 w
  no : ∀ g, g < w0.heap.size → No g
section
variable {w0 w w' : World} {No : Nat → Prop} {Gd : V → Prop} {lt : V → V → Bool} {T S hb c n : Nat} {f : Int → V} {G0 : Nat} {a : Option Addr} {L cp : Nat} {F : Nat → V}
theorem S1.below (h : S1 w0 w No Gd T S hb c n f G0 a L cp F) (k : Below w.heap.size w w') : S1 w0 w' No Gd T S hb c n f G0 a L cp F := by
  obtain ⟨A, b, a', t, s, h1, h2, h3⟩ := h.ex
  exact ⟨⟨A, b, a', t, s, h1.below k, h2, h3⟩, h.l.below k, h.nl, bthen h.k h.k.size k, h.no⟩
theorem S1.more {c' : Nat} (h : S1 w0 w No Gd T S hb c n f G0 a L cp F) (hc : c ≤ c') : S1 w0 w No Gd T S hb c' n f G0 a L cp F := by
  obtain ⟨A, b, a', t, s, h1, h2, h3⟩ := h.ex
  exact ⟨⟨A, b, a', t, s, h1.more hc, h2, h3⟩, h.l, h.nl, h.k, h.no⟩
theorem S1.sort (h : S1 w0 w No Gd T S hb c n f G0 a L cp F) (ok : OkO Gd lt) (hc : c ≤ 280000) (hn : n ≤ 60) :
    Calls Tryz.prog 15 #[.pointer (some ⟨T, 0, none⟩), .int .i64 (n : Int), .int .i64 100000] w fun e w' => ∃ (q : Nat) (g : Int → V), e = .returned (.tuple #[.int .i64 (q : Int), .int .i64 0]) ∧ (1 < n → 1 ≤ q) ∧ q ≤ 3600 ∧ S1 w0 w' No Gd T S hb (c + 120000) n g G0 a L cp F ∧ U.Sc n f g ∧ U.Srt lt g n := by
  obtain ⟨A, b, a', t, s, h1, h2, h3⟩ := h.ex
  refine (sort_any (hd_sub (n := n) (by omega) ok.gv) ok.od ok.o h1 hc hn 100000 (by omega) ⟨h2, h3⟩).mono fun e w' ⟨q, g, A1, b1, a1, t1, s1, e1, q2, q3, q4, q5, q6, q7, q8⟩ => ?_
  exact ⟨q, g, e1, q2, q3, ⟨⟨A1, b1, a1, t1, s1, q4, q5.1, q5.2⟩, h.l.keep q8 h.nl, h.nl, h.k.trans (q8.below h.k.size h.no), h.no⟩, q6, q7⟩
theorem S1.get (h : S1 w0 w No Gd T S hb c n f G0 a L cp F) (hc : c ≤ 800000) (k : Int) (h1k : 1 ≤ k) (h2k : k ≤ (n : Int)) (hn : n ≤ 60) :
    Calls Tryz.prog 20 #[.pointer (some ⟨T, 0, none⟩), .agg #[.int .i64 2, .int .i64 k, .string ⟨#[]⟩]] w fun e w' => e = .returned (.agg #[.int .i64 (f k).1, .int .i64 (f k).2.1, .string (f k).2.2]) ∧ S1 w0 w' No Gd T S hb (c + 1) n f G0 a L cp F := by
  obtain ⟨A, b, a', t, s, h1, h2, h3⟩ := h.ex
  have C := tget_any h1 (by omega) (kn k) (rng_kn (by omega) (by omega))
  rw [(h2.2 k h1k h2k).1] at C
  refine C.mono fun e w' ⟨e1, q4, q8⟩ => ?_
  exact ⟨e1, ⟨⟨A, b, a', _, s, q4, (hd_mt (n := n) (by omega)).pr _ _ _ _ h2, h3⟩, h.l.keep q8 h.nl, h.nl, h.k.trans (q8.below h.k.size h.no), h.no⟩⟩
theorem S1.gd (h : S1 w0 w No Gd T S hb c n f G0 a L cp F) (k : Int) (h1k : 1 ≤ k) (h2k : k ≤ (n : Int)) : Gd (f k) := by
  obtain ⟨A, b, a', t, s, h1, h2, h3⟩ := h.ex
  exact h3 k h1k h2k
theorem S1.often (h : S1 w0 w No Gd T S hb c n f G0 a L cp F) (hc : c ≤ 700000) (hn : n ≤ 60) (hL : n ≤ L) (hcn : ∀ x, U.cnt f x n = U.cl F x n) :
    Calls Tryz.prog 21 #[.pointer (some ⟨T, 0, none⟩), .slice a n cp] w fun e w' => e = .returned (.bool true) ∧ Below w0.heap.size w0 w' := by
  obtain ⟨A, b, a', t, s, h1, h2, h3⟩ := h.ex
  have hl := h.l.less hL
  refine (often_any h1 hc hl (fun g q => h.nl g (by cases a with | none => cases q | some x => exact q)) hn (f := f) (fun k k1 k2 => (h2.2 k k1 k2).1) hcn).mono fun e w' ⟨e1, kk⟩ => ⟨e1, h.k.trans (kk.below h.k.size h.no)⟩
end
/-- What begin leaves. -/
theorem S1.make {w0 wL w9 : World} {T S hb RT G : Nat} {t : TS} {s : H.St} {F : Nat → V} {Gd : V → Prop} {lt : V → V → Bool} {a : Option Addr} {L cp n G0 : Nat} (ok : OkO Gd lt) (k0 : Below w0.heap.size w0 wL) (lv : Lv wL G0 (.slice a L cp) L F) (z : Bz (fun g => g < wL.heap.size) w9 T S hb RT G 1000 t s t s) (k9 : Below wL.heap.size wL w9) (j : Bj F n t s) (hn : n ≤ 60) (hL : n ≤ L) (g : ∀ j, j < L → Gd (F j)) : ∃ No, S1 w0 w9 No Gd T S hb 1000 n (fun k => F (k - 1).toNat) G0 a L cp F := by
  obtain ⟨N1, _, ⟨A, b, a', t1⟩, _, _, hN⟩ := z.tt
  exact ⟨N1, ⟨⟨A, b, a', t, s, t1, j.mt z.ti.1 hn (fun i hi => ok.gv _ (g i (by omega))), fun k h1 h2 => g _ (by omega)⟩, lv.below k9, fun x q => (hN x (lv.own.lt x q).2).1, bthen k0 k0.size k9, fun x hx => (hN x (Nat.lt_of_lt_of_le hx k0.size)).1⟩⟩
end Go.Proofs.YtkmopcanaalemabGreat
