/- The walks of the checker's small functions: failed, fault, limit, isKept, unkept. -/
import Derived.Test.YtmejlldabdjpjaaGreatCg22
import Derived.Test.YtmejlldabdjpjaaGreatCg20
import Derived.Laws.StructEq
namespace Go.Proofs.YtmejlldabdjpjaaGreat
open Go.RowKit

section
variable {No : Nat → Prop} {b : Nat} {x : Cx} {s : Cs} {w w' w'' : World} {T : Nat → Prop}
theorem Tr.refl (x : Cx) (T : Nat → Prop) (w : World) : Tr x T w w := ⟨Nat.le_refl _, fun _ _ _ => rfl⟩
theorem Tr.trans (h : Tr x T w w') (k : Tr x T w' w'') : Tr x T w w'' := ⟨Nat.le_trans h.size k.size, fun g hg hT => (k.block g (Nat.lt_of_lt_of_le hg h.size) hT).trans (h.block g hg hT)⟩
theorem Tr.mono {T' : Nat → Prop} (h : Tr x T w w') (hs : ∀ l, T l → T' l) : Tr x T' w w' := ⟨h.size, fun g hg hT => h.block g hg fun e => hT (hs _ e)⟩
theorem Tr.of_below (k : Below w.heap.size w w') : Tr x T w w' := ⟨k.size, fun g hg _ => k.block g hg⟩
theorem Tr.alloc (h : Tr x T w w') (o : Obj) : Tr x T w (w'.alloc o) := h.trans (.of_below ((Below.refl _ w').alloc (Nat.le_refl _) o))
theorem Tr.set (h : Tr x T w w') {g o : Nat} (hg : T (x.lab g)) (u : Value) : Tr x T w (w'.setCell ⟨g, o, none⟩ u) :=
  h.trans ⟨by simp, fun k _ hk => Below.heap_setCell w' _ u k (fun e => hk (by have e : k = g := e; rw [e]; exact hg))⟩
/-- The checker's own cells have changed, and nothing else. -/
theorem CK.own (h : CK No b x s w) (k : Tr x (fun l => l = 1) w w') {s' : Cs} (hb : Bx b 63 (ccl x s') w') (e1 : s'.fs = s.fs) (e2 : s'.gl = s.gl) (e3 : s'.lo = s.lo) (e4 : s'.ar = s.ar) (e5 : s'.nu = s.nu) : CK No b x s' w' := by
  obtain ⟨fs, gl, nu, lo, lp, ar, cd, ct⟩ := s'
  simp only at e1 e2 e3 e4 e5
  subst e1 e2 e3 e4 e5
  exact ⟨hb, h.fr' k (by decide), h.gr' k (by decide), h.lr' k (by decide), h.ar' k (by decide), h.mp' k (by decide), fun i _ _ hf hv => h.cs' k (by omega) hf hv, h.vl, h.lb, h.lF, h.lG, h.lL, h.lA, h.lm, h.lc, h.no' k.size, h.nu⟩
/-- What the blocks of No keep. -/
theorem CK.kn (h : CK No b x s w) {a : World} (hk : Kn No a w) (k : Tr x T w w') (ho : w'.os = w.os) (ht : w'.tape = w.tape) (hu : w'.output = w.output) (hT : ¬ T 0) : Kn No a w' :=
  hk.trans ⟨ho, ht, hu, k.size, fun g hg hn => k.block g hg (by rw [(h.no g hn).2]; exact hT)⟩
end

set_option maxRecDepth 20000 in
set_option maxHeartbeats 2000000 in
theorem failed_any {No : Nat → Prop} {b : Nat} {x : Cx} {s : Cs} {w : World} (h : CK No b x s w) : Calls Tryz.prog 25 #[.pointer (some ⟨b, 0, none⟩)] w fun e w' => e = .returned (.bool s.bad) ∧ w' = w := by
  have c7 : w.cell? ⟨b, 7, none⟩ = some (.int .i64 s.cd) := h.bx.c 7 _ rfl
  have c8 : w.cell? ⟨b, 8, none⟩ = some (.int .i64 s.ct) := h.bx.c 8 _ rfl
  have hn := neq27 s.cd s.ct 0 0
  have hv : s.bad = (!decide (s.cd = 0) || !decide (s.ct = 0)) := by
    unfold Cs.bad
    by_cases h1 : s.cd = 0 <;> by_cases h2 : s.ct = 0 <;> simp [h1, h2]
  rw [hv]
  clear hv h
  go_enter Tryz.func25, Tryz.ntmps25
  go_wp2
  go_ret
  exact ⟨rfl, rfl⟩

set_option maxRecDepth 20000 in
set_option maxHeartbeats 2000000 in
theorem fault_any {No : Nat → Prop} {b : Nat} {s : Cs} {w : World} (h : Ck No b s w) (c a : Int) : Calls Tryz.prog 55 #[.pointer (some ⟨b, 0, none⟩), .int .i64 c, .int .i64 a] w (CP No b w (fau c a s)) := by
  obtain ⟨x, h⟩ := h
  have C := failed_any h
  have HH : Hid (CK No b x s w) := h
  by_cases hb : s.bad = true
  · have HE : Hid (CP No b w (fau c a s) (.returned (.tuple #[])) w) := by
      unfold fau
      rw [if_pos hb]
      exact ⟨rfl, ⟨x, h⟩, Kn.refl _ _⟩
    rw [hb] at C
    clear h hb
    go_enter Tryz.func55, Tryz.ntmps55
    go_wp2_with fail
    refine C.mono ?_
    rintro e w1 ⟨rfl, hw⟩
    rw [hw]
    go_wp2
    go_end0
    exact HE.out
  · have c7 : w.cell? ⟨b, 7, none⟩ = some (.int .i64 s.cd) := h.bx.c 7 _ rfl
    have c8 : w.cell? ⟨b, 8, none⟩ = some (.int .i64 s.ct) := h.bx.c 8 _ rfl
    have f7 := h.bx.f 7
    have f8 := h.bx.f 8
    have HE : Hid (CP No b w (fau c a s) (.returned (.tuple #[])) ((w.setCell ⟨b, 7, none⟩ (.int .i64 c)).setCell ⟨b, 8, none⟩ (.int .i64 a))) := by
      have k : Tr x (fun l => l = 1) w ((w.setCell ⟨b, 7, none⟩ (.int .i64 c)).setCell ⟨b, 8, none⟩ (.int .i64 a)) := ((Tr.refl x _ w).set h.lb _).set h.lb _
      unfold fau
      rw [if_neg hb]
      exact ⟨rfl, ⟨x, h.own k ((h.bx.put (j := 7) (.int .i64 c)).put (j := 8) (.int .i64 a)) rfl rfl rfl rfl rfl⟩, h.kn (Kn.refl _ _) k rfl rfl rfl (by decide)⟩
    rw [Bool.eq_false_iff.2 hb] at C
    clear h hb
    go_enter Tryz.func55, Tryz.ntmps55
    go_wp2_with fail
    refine C.mono ?_
    rintro e w1 ⟨rfl, hw⟩
    rw [hw]
    go_wp2
    go_end0
    exact HE.out

set_option maxRecDepth 20000 in
set_option maxHeartbeats 2000000 in
theorem limit_any {No : Nat → Prop} {b : Nat} {s : Cs} {w : World} (h : Ck No b s w) (k : Int) (t : Tx) (n p : Int) (v : Value) (c m : Int) : Calls Tryz.prog 38 #[.pointer (some ⟨b, 0, none⟩), (.agg #[.int .i64 (k), .string ⟨(t).toArray⟩, .int .i64 (n), .int .i64 (p), v]), .int .i64 c, .int .i64 m] w (CP No b w (lim p c m s)) := by
  have B := h.cy #[.int .i64 k, .string ⟨t.toArray⟩, .int .i64 n, .int .i64 p, v]
  clear h
  by_cases hm : m < c
  · have C := fault_any B.ck 6 p
    obtain ⟨p0, p1, p2, p3, p4⟩ := B.bx.five
    have HB : Hid _ := B
    unfold lim
    rw [if_pos hm]
    clear B
    go_enter Tryz.func38, Tryz.ntmps38
    go_wp2_with fail
    refine C.mono ?_
    rintro e w1 hq
    have D := (HB.out.step hq).out
    obtain ⟨rfl, -⟩ := hq
    go_wp2
    go_end0
    exact D
  · have HE : Hid (CP No b w (lim p c m s) (.returned (.tuple #[])) (w.alloc (.cells #[.int .i64 (k), .string ⟨(t).toArray⟩, .int .i64 (n), .int .i64 (p), v] 42))) := by
      unfold lim
      rw [if_neg hm]
      exact B.out
    clear B
    go_enter Tryz.func38, Tryz.ntmps38
    go_wp2
    go_end0
    exact HE.out

set_option maxRecDepth 20000 in
set_option maxHeartbeats 2000000 in
theorem kept_any (t : Tx) (w : World) : Calls Tryz.prog 94 #[.string ⟨t.toArray⟩] w fun e w' => e = .returned (.bool (kep t)) ∧ w' = w := by
  have hv : kep t = (decide (t = [116, 97, 98, 108, 101]) || decide (t = [117, 116, 102, 56])) := rfl
  rw [hv]
  by_cases h1 : t = [116, 97, 98, 108, 101]
  · subst h1
    go_enter Tryz.func94, Tryz.ntmps94
    go_wp2
    go_ret
    exact ⟨rfl, rfl⟩
  · by_cases h2 : t = [117, 116, 102, 56]
    · subst h2
      go_enter Tryz.func94, Tryz.ntmps94
      go_wp2
      go_ret
      exact ⟨rfl, rfl⟩
    · go_enter Tryz.func94, Tryz.ntmps94
      go_wp2
      go_ret
      exact ⟨by simp [h1, h2], rfl⟩
end Go.Proofs.YtmejlldabdjpjaaGreat

/- The walks of unkept, of slices.Index and Contains of texts. -/
namespace Go.Proofs.YtmejlldabdjpjaaGreat
open Go.RowKit

set_option maxRecDepth 20000 in
set_option maxHeartbeats 2000000 in
theorem unkept_any {No : Nat → Prop} {b : Nat} {s : Cs} {w : World} (h : Ck No b s w) (k : Int) (t : Tx) (n p : Int) (v : Value) : Calls Tryz.prog 53 #[.pointer (some ⟨b, 0, none⟩), (.agg #[.int .i64 (k), .string ⟨(t).toArray⟩, .int .i64 (n), .int .i64 (p), v])] w (CP No b w (unk t p s)) := by
  have B := h.cy #[.int .i64 k, .string ⟨t.toArray⟩, .int .i64 n, .int .i64 p, v]
  clear h
  obtain ⟨p0, p1, p2, p3, p4⟩ := B.bx.five
  have K := kept_any t (w.alloc (.cells #[.int .i64 (k), .string ⟨(t).toArray⟩, .int .i64 (n), .int .i64 (p), v] 42))
  have HB : Hid _ := B
  unfold unk
  by_cases hm : kep t = true
  · have C := fault_any B.ck 5 p
    rw [if_pos hm]
    rw [hm] at K
    clear B hm
    go_enter Tryz.func53, Tryz.ntmps53
    go_wp2_with fail
    refine K.mono ?_
    rintro e w1 ⟨rfl, hw⟩
    rw [hw]
    go_wp2_with fail
    refine C.mono ?_
    rintro e w1 hq
    have D := (HB.out.step hq).out
    obtain ⟨rfl, -⟩ := hq
    go_wp2
    go_end0
    exact D
  · rw [if_neg hm]
    rw [Bool.eq_false_iff.2 hm] at K
    clear B hm
    go_enter Tryz.func53, Tryz.ntmps53
    go_wp2_with fail
    refine K.mono ?_
    rintro e w1 ⟨rfl, hw⟩
    rw [hw]
    go_wp2
    go_end0
    exact HB.out.out

theorem strs_at (l : List Tx) (i : Nat) (u : Tx) (h : l[i]? = some u) : (strs l)[i]? = some (.string ⟨u.toArray⟩) := by simp [strs, h]
theorem own_at {w : World} {e : TypeId} {z : Nat} {v : Value} {n : Nat} {xs : List Value} (h : w.ownsRow 0 e z v n xs) (j : Nat) (u : Value) (hj : xs[j]? = some u) : ∃ g, v.ownBlock = some g ∧ w.cell? ⟨g, j, none⟩ = some u := by
  rcases h.2 with ⟨rfl, h0⟩ | ⟨g, cap, cur, rfl, _⟩
  · have := h.1
    rw [h0] at this
    have := (List.getElem?_eq_some_iff.1 hj).1
    omega
  · exact ⟨g, rfl, by
      have := h.cells (g := g) rfl j u hj
      unfold Addr.add at this
      split at this
      · next h0 => subst h0; exact this
      · simpa using this⟩

set_option maxRecDepth 20000 in
set_option maxHeartbeats 2000000 in
theorem indexT_any (l : List Tx) (t : Tx) (v : Value) (w : World) (h : w.ownsRow 0 9 1 v l.length (strs l)) (hl : l.length ≤ 2000000) :
    Calls Tryz.prog 95 #[v, .string ⟨t.toArray⟩] w fun e w' => (∃ i : Int, e = .returned (.int .i64 i) ∧ decide (0 ≤ i) = l.contains t) ∧ w' = w := by
  obtain ⟨a, c, rfl⟩ := slice_shape h
  have HC : Hid (∀ i u, l[i]? = some u → ∃ g, a = some ⟨g, 0, none⟩ ∧ w.cell? ⟨g, i, none⟩ = some (.string ⟨u.toArray⟩)) := fun i u hu => by
    obtain ⟨g, h1, h2⟩ := own_at h i _ (strs_at l i u hu)
    rcases h.2 with ⟨e, _⟩ | ⟨g', cap, cur, e, _⟩
    · rw [e] at h1; simp [Value.ownBlock] at h1
    · rw [e] at h1
      injection e with e1 e2 e3
      have e4 : g' = g := by simpa [Value.ownBlock] using h1
      exact ⟨g, by rw [e1, e4], h2⟩
  clear h
  go_enter Tryz.func95, Tryz.ntmps95
  go_wp2_with fail
  go_loopw [4, 5, 8] (fun _ _ iv wx => ∃ i : Nat, iv = .int .i64 (i : Nat) ∧ i ≤ l.length ∧ Hid ((l.take i).contains t = false) ∧ wx = w) (fun _ _ iv _ => l.length - (intOf iv).toNat)
  case atStart => exact ⟨0, rfl, Nat.zero_le _, by show (l.take 0).contains t = false; simp, rfl⟩
  case round =>
    obtain ⟨i, rfl, hi, HR, rfl⟩ := hrel
    by_cases hlt : i < l.length
    · obtain ⟨u, hu⟩ : ∃ u, l[i]? = some u := ⟨_, List.getElem?_eq_getElem hlt⟩
      obtain ⟨g, rfl, hc⟩ := HC.out i u hu
      by_cases he : t = u
      · have HE : Hid (l.contains t = true) := by
          have := List.mem_of_getElem? hu
          rw [← he] at this
          show l.contains t = true
          simpa using this
        subst he
        clear hu
        go_wp2
        go_ret
        exact ⟨⟨_, rfl, by rw [HE.out]; simp⟩, rfl⟩
      · have HN : Hid ((l.take (i + 1)).contains t = false) := by
          rw [List.take_add_one, hu]
          have := HR.out
          simp at this ⊢
          exact ⟨this, fun e => he e⟩
        have he2 : (t == u) = false := by simpa using he
        clear hu HR
        go_wp2
        refine ⟨⟨i + 1, by go_num, by omega, HN, trivial⟩, ?_⟩
        simp [intOf]; omega
    · obtain rfl : i = l.length := by omega
      have HE : Hid (l.contains t = false) := by have := HR.out; show l.contains t = false; simpa using this
      clear HR
      go_wp2
      go_ret
      exact ⟨⟨_, rfl, by rw [HE.out]; decide⟩, rfl⟩

set_option maxRecDepth 20000 in
set_option maxHeartbeats 2000000 in
theorem containsT_any (l : List Tx) (t : Tx) (v : Value) (w : World) (h : w.ownsRow 0 9 1 v l.length (strs l)) (hl : l.length ≤ 2000000) :
    Calls Tryz.prog 54 #[v, .string ⟨t.toArray⟩] w fun e w' => e = .returned (.bool (l.contains t)) ∧ w' = w := by
  have C := indexT_any l t v w h hl
  go_enter Tryz.func54, Tryz.ntmps54
  go_wp2_with fail
  refine C.mono ?_
  rintro e w1 ⟨⟨i, rfl, hi⟩, hw⟩
  rw [hw]
  go_wp2
  go_ret
  exact ⟨by simp, rfl⟩
end Go.Proofs.YtmejlldabdjpjaaGreat

/- The walks of slices.Index and Contains of values. -/
namespace Go.Proofs.YtmejlldabdjpjaaGreat
open Go.RowKit

theorem bthen {B : Nat} {a w w' : World} (h : Below B a w) (hB : B ≤ w.heap.size) (k : Below w.heap.size w w') : Below B a w' :=
  ⟨k.os.trans h.os, k.tape.trans h.tape, k.output.trans h.output, Nat.le_trans h.size k.size, fun g hg => (k.block g (Nat.lt_of_lt_of_le hg hB)).trans (h.block g hg)⟩
theorem under54 : Tryz.prog.underlying 54 = some (.struct (Tryz.prog.fieldsOf 54)) := by kernel_rfl
theorem stood54 : Tryz.prog.stoodInHeld 54 = false := by kernel_rfl
theorem eql54 (k n k' n' : Int) (s s' : Tx) (W : World) : (binOp .eql 54 (.agg #[.int .i64 k, .int .i64 n, .string ⟨s.toArray⟩]) (.agg #[.int .i64 k', .int .i64 n', .string ⟨s'.toArray⟩])).run Tryz.prog W = .ok (.bool (decide ((k, n, s) = (k', n', s')))) W := by
  rw [run_eql_struct, run_equalIn_agg W _ _ _ _ under54 stood54]
  simp [go_sem]
  by_cases h1 : k = k' <;> by_cases h2 : n = n' <;> by_cases h3 : s = s' <;> simp [h1, h2, h3]
theorem vcl_at : ∀ (l : List Vl) (i : Nat) (v : Vl), l[i]? = some v → (vcl l)[i * 3]? = some (.int .i64 v.1) ∧ (vcl l)[i * 3 + 1]? = some (.int .i64 v.2.1) ∧ (vcl l)[i * 3 + 2]? = some (.string ⟨v.2.2.toArray⟩)
  | [], i, v, h => by simp at h
  | u :: l, 0, v, h => by simp at h; subst h; exact ⟨rfl, rfl, rfl⟩
  | u :: l, i + 1, v, h => by
    have := vcl_at l i v (by simpa using h)
    simpa only [show (i + 1) * 3 = i * 3 + 3 by omega, show i * 3 + 3 + 1 = i * 3 + 1 + 3 by omega, show i * 3 + 3 + 2 = i * 3 + 2 + 3 by omega, vcl, List.flatMap_cons, List.cons_append, List.nil_append, List.getElem?_cons_succ] using this

set_option maxRecDepth 20000 in
set_option maxHeartbeats 2000000 in
theorem indexV_any (l : List Vl) (t : Vl) (v : Value) (w : World) (h : w.ownsRow 0 54 3 v l.length (vcl l)) (hl : l.length ≤ 2000000) :
    Calls Tryz.prog 93 #[v, .agg #[.int .i64 t.1, .int .i64 t.2.1, .string ⟨t.2.2.toArray⟩]] w fun e w' => (∃ i : Int, e = .returned (.int .i64 i) ∧ decide (0 ≤ i) = l.contains t) ∧ Below w.heap.size w w' := by
  obtain ⟨a, c, rfl⟩ := slice_shape h
  have HC : Hid (∀ i u, l[i]? = some u → ∃ g, a = some ⟨g, 0, none⟩ ∧ g < w.heap.size ∧ w.cell? ⟨g, i * 3, none⟩ = some (.int .i64 u.1) ∧ w.cell? ⟨g, i * 3 + 1, none⟩ = some (.int .i64 u.2.1) ∧ w.cell? ⟨g, i * 3 + 2, none⟩ = some (.string ⟨u.2.2.toArray⟩)) := fun i u hu => by
    obtain ⟨h1, h2, h3⟩ := vcl_at l i u hu
    obtain ⟨g, q1, q2⟩ := own_at h _ _ h1
    obtain ⟨g2, q3, q4⟩ := own_at h _ _ h2
    obtain ⟨g3, q5, q6⟩ := own_at h _ _ h3
    have e2 : g2 = g := by rw [q3] at q1; simpa using q1
    have e3 : g3 = g := by rw [q5] at q1; simpa using q1
    rw [e2] at q4
    rw [e3] at q6
    have hg := (h.lt g q1).2
    rcases h.2 with ⟨e, _⟩ | ⟨g', cap, cur, e, _⟩
    · rw [e] at q1; simp [Value.ownBlock] at q1
    · rw [e] at q1
      injection e with e1 e2 e3
      have e4 : g' = g := by simpa [Value.ownBlock] using q1
      exact ⟨g, by rw [e1, e4], hg, q2, q4, q6⟩
  clear h
  obtain ⟨tk, tn, ts⟩ := t
  have HB := (Below.refl w.heap.size w).alloc (Nat.le_refl _) (.cells #[.int .i64 tk, .int .i64 tn, .string ⟨ts.toArray⟩] 54)
  have X0 := Bx.new w 54 #[.int .i64 tk, .int .i64 tn, .string ⟨ts.toArray⟩]
  obtain ⟨W1, hW⟩ : ∃ W1, w.alloc (.cells #[.int .i64 tk, .int .i64 tn, .string ⟨ts.toArray⟩] 54) = W1 := ⟨_, rfl⟩
  rw [hW] at HB X0
  have HC : Hid (∀ wx, Below W1.heap.size W1 wx → (Bx w.heap.size 54 #[.int .i64 tk, .int .i64 tn, .string ⟨ts.toArray⟩] wx ∧ Below w.heap.size w wx) ∧ ∀ i u, l[i]? = some u → ∃ g, a = some ⟨g, 0, none⟩ ∧ wx.cell? ⟨g, i * 3, none⟩ = some (.int .i64 u.1) ∧ wx.cell? ⟨g, i * 3 + 1, none⟩ = some (.int .i64 u.2.1) ∧ wx.cell? ⟨g, i * 3 + 2, none⟩ = some (.string ⟨u.2.2.toArray⟩)) := fun wx hx => by
    refine ⟨⟨X0.below hx, bthen HB HB.size hx⟩, fun i u hu => ?_⟩
    obtain ⟨g, q0, q1, q2, q3, q4⟩ := HC.out i u hu
    have q5 : g < W1.heap.size := Nat.lt_of_lt_of_le q1 HB.size
    exact ⟨g, q0, (hx.cell (by exact q5)).trans ((HB.cell (by exact q1)).trans q2), (hx.cell (by exact q5)).trans ((HB.cell (by exact q1)).trans q3), (hx.cell (by exact q5)).trans ((HB.cell (by exact q1)).trans q4)⟩
  clear X0 HB
  simp only
  go_enter Tryz.func93, Tryz.ntmps93
  go_wp2_with fail
  go_loopw [4, 5, 8] (fun _ _ iv wx => ∃ i : Nat, iv = .int .i64 (i : Nat) ∧ i ≤ l.length ∧ Hid ((l.take i).contains (tk, tn, ts) = false ∧ Below W1.heap.size W1 wx)) (fun _ _ iv _ => l.length - (intOf iv).toNat)
  case atStart => exact ⟨0, rfl, Nat.zero_le _, by simp, Below.refl _ _⟩
  case round =>
    obtain ⟨i, rfl, hi, HR⟩ := hrel
    obtain ⟨⟨X1, _⟩, HC1⟩ := HC.out wr HR.out.2
    have x0 := X1.c 0 _ rfl
    have x1 := X1.c 1 _ rfl
    have x2 := X1.c 2 _ rfl
    clear X1
    by_cases hlt : i < l.length
    · obtain ⟨u, hu⟩ : ∃ u, l[i]? = some u := ⟨_, List.getElem?_eq_getElem hlt⟩
      obtain ⟨g, rfl, q0, q1, q2⟩ := HC1 i u hu
      obtain ⟨uk, un, us⟩ := u
      have E := eql54 tk tn uk un ts us
      clear HC1
      by_cases he : (tk, tn, ts) = (uk, un, us)
      · have HE : Hid (l.contains (tk, tn, ts) = true ∧ Below w.heap.size w wr) := by
          have := List.mem_of_getElem? hu
          rw [← he] at this
          exact ⟨by simpa using this, (HC.out wr HR.out.2).1.2⟩
        rw [decide_eq_true he] at E
        clear hu HC he
        go_wp2_with fail
        go_region
        all_goals
          go_wp2
          go_ret
          exact ⟨⟨_, rfl, by rw [HE.out.1]; simp⟩, HE.out.2.drew⟩
      · have HN : Hid ((l.take (i + 1)).contains (tk, tn, ts) = false ∧ Below W1.heap.size W1 wr) := by
          rw [List.take_add_one, hu]
          have := HR.out.1
          refine ⟨?_, HR.out.2⟩
          simp only [Option.toList_some, List.contains_eq_mem, List.mem_append, List.mem_singleton, decide_eq_false_iff_not, not_or] at this ⊢
          exact ⟨this, he⟩
        rw [decide_eq_false he] at E
        clear hu HR HC he
        go_wp2_with fail
        go_region
        all_goals
          go_wp2
          refine ⟨⟨i + 1, by go_num, by omega, HN.out.1, HN.out.2.drew⟩, ?_⟩
          simp [intOf]; omega
    · obtain rfl : i = l.length := by omega
      have HE : Hid (l.contains (tk, tn, ts) = false ∧ Below w.heap.size w wr) := by have := HR.out.1; exact ⟨by simpa using this, (HC.out wr HR.out.2).1.2⟩
      clear HR HC HC1
      go_wp2
      go_ret
      exact ⟨⟨_, rfl, by rw [HE.out.1]; decide⟩, HE.out.2⟩

set_option maxRecDepth 20000 in
set_option maxHeartbeats 2000000 in
theorem containsV_any (l : List Vl) (t : Vl) (v : Value) (w : World) (h : w.ownsRow 0 54 3 v l.length (vcl l)) (hl : l.length ≤ 2000000) :
    Calls Tryz.prog 52 #[v, .agg #[.int .i64 t.1, .int .i64 t.2.1, .string ⟨t.2.2.toArray⟩]] w fun e w' => e = .returned (.bool (l.contains t)) ∧ Below w.heap.size w w' := by
  have HB := (Below.refl w.heap.size w).alloc (Nat.le_refl _) (.cells #[.int .i64 t.1, .int .i64 t.2.1, .string ⟨t.2.2.toArray⟩] 54)
  have X0 := Bx.new w 54 #[.int .i64 t.1, .int .i64 t.2.1, .string ⟨t.2.2.toArray⟩]
  have C := indexV_any l t v _ (h.alloc (.cells #[.int .i64 t.1, .int .i64 t.2.1, .string ⟨t.2.2.toArray⟩] 54)) hl
  obtain ⟨W1, hW⟩ : ∃ W1, w.alloc (.cells #[.int .i64 t.1, .int .i64 t.2.1, .string ⟨t.2.2.toArray⟩] 54) = W1 := ⟨_, rfl⟩
  rw [hW] at HB X0 C
  have x0 := X0.c 0 _ rfl
  have x1 := X0.c 1 _ rfl
  have x2 := X0.c 2 _ rfl
  have HB : Hid (Below w.heap.size w W1) := HB
  clear X0 h
  go_enter Tryz.func52, Tryz.ntmps52
  go_wp2_with fail
  refine C.mono ?_
  rintro e w1 ⟨⟨i, rfl, hi⟩, hw⟩
  have HE : Hid (decide (0 ≤ i) = l.contains t ∧ Below w.heap.size w w1) := ⟨hi, bthen HB.out HB.out.size hw⟩
  clear hi hw
  go_wp2
  go_ret
  exact ⟨by rw [← HE.out.1]; simp, HE.out.2⟩
end Go.Proofs.YtmejlldabdjpjaaGreat

/- The walk of global. -/
namespace Go.Proofs.YtmejlldabdjpjaaGreat
open Go.RowKit

theorem law9 : Maps.Keyed Tryz.prog 9 := Maps.string_keyed Tryz.underlying9
theorem zero140 (w : World) : (zeroValue 140).run Tryz.prog w = .ok (.agg #[]) w := by kernel_rfl
theorem info9 : (Tryz.prog.info? 9).map (fun i => (i.zero, i.size, i.bytes)) = some (some (.string ⟨#[]⟩), 1, 16) := by kernel_rfl
theorem strs_app (l : List Tx) (t : Tx) : strs (l ++ [t]) = strs l ++ [.string ⟨t.toArray⟩] := by simp [strs]
theorem own_set {w : World} {e : TypeId} {z : Nat} {v : Value} {n : Nat} {xs : List Value} (h : w.ownsRow 0 e z v n xs) {b o : Nat} (hb : ∀ g, v.ownBlock = some g → g ≠ b) (u : Value) : (w.setCell ⟨b, o, none⟩ u).ownsRow 0 e z v n xs :=
  own_keep h fun g hg => Below.heap_setCell w _ u g (hb g hg)
section
variable {No : Nat → Prop} {b : Nat} {x : Cx} {s : Cs} {w w' : World} {T : Nat → Prop}
/-- An append to a row whose blocks have the label l. -/
theorem Tr.app {v : Value} {l : Nat} (h : w.grownBy w' v.ownBlock) (hv : ∀ g, v.ownBlock = some g → x.lab g = l) (hl : T l) : Tr x T w w' := ⟨h.size, fun g hg hT => h.block g hg fun e => hT (by rw [hv g e.symm]; exact hl)⟩
/-- Other labels, the same on all blocks that there are. -/
theorem CK.relab (h : CK No b x s w) (lab' : Nat → Nat) (e : ∀ g, g < w.heap.size → lab' g = x.lab g) : CK No b { x with lab := lab' } s w :=
  ⟨h.bx, h.fr, h.gr, h.lr, h.ar, h.mp, h.cs, h.vl, (e b h.lt).trans h.lb, fun g hg => (e g (h.fr.lt g hg).2).trans (h.lF g hg), fun g hg => (e g (h.gr.lt g hg).2).trans (h.lG g hg), fun g hg => (e g (h.lr.lt g hg).2).trans (h.lL g hg), h.lA, (e _ h.mp.lt).trans h.lm,
    fun i v g hv hg => by
      obtain ⟨f, hf⟩ : ∃ f, s.fs[i]? = some f := by
        have := (List.getElem?_eq_some_iff.1 hv).1
        rw [h.vl] at this
        exact ⟨_, List.getElem?_eq_getElem this⟩
      exact (e g ((h.cs i f v hf hv).lt g hg).2).trans (h.lc i v g hv hg),
    fun g hg => ⟨(h.no g hg).1, (e g (h.no g hg).1).trans (h.no g hg).2⟩, h.nu⟩
/-- A block that an append leaves: the row's own, or a new one. -/
theorem CK.at (h : CK No b x s w) {v : Value} {l g' : Nat} (hv : ∀ g, v.ownBlock = some g → x.lab g = l) (hat : v.ownBlock = some g' ∨ w.heap.size ≤ g') : CK No b { x with lab := fun g => if g = g' then l else x.lab g } s w :=
  h.relab _ fun g hg => by
    by_cases e : g = g'
    · rw [if_pos e]
      rcases hat with q | q
      · rw [e]; exact (hv g' q).symm
      · omega
    · rw [if_neg e]
end
/-- A text more among the globals. -/
theorem CK.appG {No : Nat → Prop} {b : Nat} {x : Cx} {s : Cs} {w w2 w3 : World} {t : Tx} {g' cc : Nat} {o1 o2 : Obj} (h : CK No b x s w) (hg2 : (w.alloc o1).grownBy w2 (some x.m)) (hM : Ms w2 x.m (s.gl ++ [t])) (hown : w3.ownsRow 0 9 1 (.slice (some ⟨g', 0, none⟩) (s.gl.length + 1) cc) (s.gl.length + 1) (strs s.gl ++ [.string ⟨t.toArray⟩]))
    (hg3 : (w2.alloc o2).grownBy w3 x.vG.ownBlock) (hat : x.vG.ownBlock = some g' ∨ g' = (w2.alloc o2).heap.size) : CP No b w { s with gl := s.gl ++ [t] } (.returned (.tuple #[])) (w3.setCell ⟨b, 1, none⟩ (.slice (some ⟨g', 0, none⟩) (s.gl.length + 1) cc)) := by
  have s2 := hg2.size
  have s3 := hg3.size
  have z1 : (w.alloc o1).heap.size = w.heap.size + 1 := by simp
  have z2 : (w2.alloc o2).heap.size = w2.heap.size + 1 := by simp
  have h1 := h.at h.lG (g' := g') (hat.imp id fun e => by omega)
  generalize hlab : (fun g => if g = g' then 3 else x.lab g) = lab' at h1
  have hl' : lab' g' = 3 := by rw [← hlab]; exact if_pos rfl
  have hbg : g' ≠ b := fun e => by have := h1.lb; rw [← e] at this; simp only at this; omega
  have hmg : some x.m ≠ x.vG.ownBlock := fun e => by have := h1.lG x.m e.symm; have := h1.lm; simp only at *; omega
  have hmb : x.m ≠ b := fun e => by have := h1.lm; have := h1.lb; simp only at *; rw [e] at *; omega
  have k0 : Tr { x with lab := lab' } (fun l => l = 1 ∨ l = 3 ∨ l = 5) w w3 := by
    refine (((Tr.refl _ _ w).alloc o1).trans ?_).trans ((Tr.alloc (Tr.refl _ _ w2) o2).trans (Tr.app hg3 h1.lG (.inr (.inl rfl))))
    exact ⟨hg2.size, fun g hg hT => hg2.block g hg fun e => hT (.inr (.inr (by injection e with e; rw [e]; exact h1.lm)))⟩
  have k : Tr { x with lab := lab' } (fun l => l = 1 ∨ l = 3 ∨ l = 5) w (w3.setCell ⟨b, 1, none⟩ (.slice (some ⟨g', 0, none⟩) (s.gl.length + 1) cc)) := k0.set (.inl h1.lb) _
  have hb3 : Bx b 63 (ccl x s) w3 := by
    have q1 : Bx b 63 (ccl x s) w2 := ⟨(hg2.block b (by have := h.lt; simp; omega) (fun e => by injection e with e; exact hmb e.symm)).trans (h.bx.alloc o1).blk⟩
    exact ⟨(hg3.block b (by have := q1.lt; simp; omega) (fun e => by have := h1.lG b e.symm; have := h1.lb; simp only at *; omega)).trans (q1.alloc o2).blk⟩
  have hM3 : Ms w3 x.m (s.gl ++ [t]) := hM.keep ((hg3.block _ (by have := hM.lt; simp; omega) hmg).trans ((World.grownBy_alloc w2 o2 none).block _ hM.lt (by simp)))
  refine ⟨rfl, ⟨{ x with vG := .slice (some ⟨g', 0, none⟩) (s.gl.length + 1) cc, lab := lab' }, ?_⟩, ?_⟩
  · refine ⟨hb3.put (j := 1) _, h1.fr' k (by simp), ?_, h1.lr' k (by simp), h1.ar' k (by simp), hM3.keep (Below.heap_setCell w3 _ _ _ hmb), fun i _ _ hf hv => h1.cs' k (by omega) hf hv, h.vl, h1.lb, h1.lF, fun g hg => ?_, h1.lL, h.lA, h1.lm, h1.lc, h1.no' k.size, h.nu⟩
    · rw [strs_app, List.length_append, List.length_singleton]
      exact own_set hown (fun g hg => by have e2 : g' = g := by simpa [Value.ownBlock] using hg
                                         omega) _
    · have e2 : g' = g := by simpa [Value.ownBlock] using hg
      rw [← e2]; exact hl'
  · refine ⟨hg3.os.trans hg2.os, hg3.tape.trans hg2.tape, hg3.output.trans hg2.output, k.size, fun g hg hn => k.block g hg ?_⟩
    rw [(h1.no g hn).2]; simp

set_option maxRecDepth 20000 in
set_option maxHeartbeats 4000000 in
theorem global_any {No : Nat → Prop} {b : Nat} {s : Cs} {w : World} (h : Ck No b s w) (t : Tx) (ht : t.length ≤ 20000) (hl : s.gl.length ≤ 1000000) : Calls Tryz.prog 56 #[.pointer (some ⟨b, 0, none⟩), .string ⟨t.toArray⟩] w (CP No b w (glo t s)) := by
  obtain ⟨x, h⟩ := h
  obtain ⟨i0, hi0, hz0, hz1, hz2⟩ := info_parts info9
  obtain ⟨D, n, hM, hn, hD⟩ := h.mp.ex
  have c1 : w.cell? ⟨b, 1, none⟩ = some x.vG := h.bx.c 1 _ rfl
  have c2 : w.cell? ⟨b, 2, none⟩ = some (.map (some x.m)) := h.bx.c 2 _ rfl
  have hkey : keyOf Tryz.prog 9 (.string ⟨t.toArray⟩) = some (.string t) := by
    have := WideMaps.keyOf_string_mk (P := Tryz.prog) Tryz.underlying9 (s := ⟨t.toArray⟩) (by show t.toArray.size ≤ maxLen; simp; unfold maxLen; omega)
    simpa using this
  unfold glo
  by_cases hc : s.gl.contains t = true
  · rw [if_pos hc]
    have HE : Hid (CP No b w s (.returned (.tuple #[])) (w.alloc (.cells #[] 140))) := ⟨rfl, ⟨x, h.alloc _⟩, (Kn.refl _ _).alloc _⟩
    have hh : Maps.has D (Lit.string t) = true := (hD t).trans hc
    clear h hc hD
    go_enter Tryz.func56, Tryz.ntmps56
    go_wp2_with (first
      | (at_lookup; refine wpList_lookup_own_unit _ rfl _ _ 59 rfl 9 140 law9 Tryz.underlying59 (zero140 _) x.m n D rfl hM _ _ rfl hkey ?_)
      | go_in)
    go_end0
    exact HE.out
  · rw [if_neg hc]
    have hh : Maps.has D (Lit.string t) = false := (hD t).trans (Bool.eq_false_iff.2 hc)
    have b1 := h.bx.alloc (.cells #[] 140)
    have m1 := hM.alloc (.cells #[] 140)
    obtain ⟨W1, hW1⟩ : ∃ W1, w.alloc (.cells #[] 140) = W1 := ⟨_, rfl⟩
    have HF : Hid (∀ w2, w2.ownsMap Tryz.prog 9 (unitElem (H := Unit)) x.m (n + 1) (D.put (Lit.string t) (.agg [])) → W1.grownBy w2 (some x.m) → w2.cell? ⟨b, 1, none⟩ = some x.vG ∧ w2.ownsRow 0 9 1 x.vG s.gl.length (strs s.gl) ∧ Ms w2 x.m (s.gl ++ [t]) ∧ (∀ o, (w2.alloc o).cell? ⟨b, 1, none⟩ = some x.vG) ∧ ∀ o w3, (w2.alloc o).grownBy w3 x.vG.ownBlock → w3.frozen? ⟨b, 1, none⟩ = false ∧ w3.cell? ⟨b, 1, none⟩ = some x.vG) := by
      rw [← hW1]
      intro w2 hM2 hg2
      have hb2 : Bx b 63 (ccl x s) w2 := ⟨(hg2.block b (by have := h.lt; simp; omega) (fun e => by injection e with e; have := h.lm; have := h.lb; rw [e] at *; omega)).trans (h.bx.alloc _).blk⟩
      refine ⟨hb2.c 1 _ rfl, ?_, ⟨_, _, hM2, by simp; omega, fun u => ?_⟩, fun o => (hb2.alloc o).c 1 _ rfl, fun o w3 hg3 => ?_⟩
      · exact (h.gr.alloc _).kept hg2 (.inr fun e => by have := h.lG x.m e; have := h.lm; omega)
      · by_cases e : u = t
        · subst e
          rw [Maps.has_put_same hM.isMap (by simp [WideAt.IsKeyLit])]
          simp
        · rw [Maps.has_put_other (fun q => e (by injection q)), hD u]
          simp [e]
      · have hb3 : Bx b 63 (ccl x s) w3 := ⟨(hg3.block b (by have := hb2.lt; simp; omega) (fun e => by have := h.lG b e.symm; have := h.lb; omega)).trans (hb2.alloc o).blk⟩
        exact ⟨hb3.f 1, hb3.c 1 _ rfl⟩
    have HH : Hid (CK No b x s w) := h
    have HW : Hid (w.alloc (.cells #[] 140) = W1) := hW1
    rw [hW1] at b1 m1
    have c2' : W1.cell? ⟨b, 2, none⟩ = some (.map (some x.m)) := b1.c 2 _ rfl
    clear h hc hD b1
    go_enter Tryz.func56, Tryz.ntmps56
    go_wp2_with (first
      | (at_lookup; refine wpList_lookup_own_unit _ rfl _ _ 59 rfl 9 140 law9 Tryz.underlying59 (zero140 _) x.m n D rfl hM _ _ rfl hkey ?_)
      | (at_mapUpdate; refine wpList_mapUpdate_own _ rfl _ _ _ 59 rfl 9 140 law9 Tryz.underlying59 (unitElem (H := Unit)) x.m n D rfl m1 (by unfold maxLen; omega) _ _ _ rfl rfl hkey _ [] unitElem_mk ?_; intro w2 hM2 hg2; obtain ⟨q1, q3, q5, q7, q6⟩ := HF.out w2 hM2 hg2)
      | (at_builtin; refine wpList_append_lies _ rfl _ _ 23 rfl 0 9 i0 _ 1 16 Tryz.underlying23 hi0 hz0 hz1 hz2 rfl (by omega) x.vG s.gl.length (strs s.gl) rfl (q3.alloc _) ⟨w2.heap.size, 0, none⟩ 1 1 [.string ⟨t.toArray⟩] rfl rfl (World.news_of_block (cs := #[.string ⟨t.toArray⟩]) (t := 9) (fr := (0, 0)) (Bx.new w2 9 #[.string ⟨t.toArray⟩]).blk) (by simp [Value.oneCell']) (by omega) (by unfold maxLen; omega) (by omega) (by omega) _ rfl ?_; intro g' cc w3 hown3 hg3 hat3 hlt3; obtain ⟨q8, q9⟩ := q6 _ w3 hg3)
      | go_in)
    go_end0
    have hg2' := hg2
    rw [← HW.out] at hg2'
    exact HH.out.appG hg2' q5 hown3 hg3 hat3
end Go.Proofs.YtmejlldabdjpjaaGreat

/- A node's contract; the walk of nodes; what an append to the locals leaves. -/
namespace Go.Proofs.YtmejlldabdjpjaaGreat
open Go.RowKit

/-- What a function that checks a node is to leave. -/
def CN (f : FuncId) (N : Nat) (nd : Ndc) : Prop := ∀ (No : Nat → Prop) (b : Nat) (s : Cs) (W : World) (k : Int) (t : Tx) (n p : Int) (a : Option Addr) (c : Nat) (ks : F), Ck No b s W → Rv W No a ks → ks.siz < N → (one k t n p ks).wfC = true → (ks.len ≤ c ∧ c ≤ maxLen) → s.wt + 4 * (ks.siz + 1) ≤ 1000000 → 0 ≤ s.lp → s.lp + ((ks.siz : Nat) : Int) + 1 ≤ 1000000 →
  Calls Tryz.prog f #[.pointer (some ⟨b, 0, none⟩), (.agg #[.int .i64 (k), .string ⟨(t).toArray⟩, .int .i64 (n), .int .i64 (p), .slice a ks.len c])] W (CP No b W (nd k t n p ks s))

set_option maxRecDepth 20000 in
set_option maxHeartbeats 4000000 in
theorem nodes_any {N : Nat} {nd : Ndc} (H : ∀ k t n p ks s, Gd (ks.siz + 1) s (nd k t n p ks s)) (CE : CN 24 N nd) (No : Nat → Prop) (b : Nat) (s : Cs) (W : World) (a : Option Addr) (c : Nat) (r : F) (h : Ck No b s W) (hr : Rv W No a r) (hs : r.siz ≤ N) (hw : r.wfC = true) (hL : s.wt + 4 * r.siz ≤ 1000000) (hp0 : 0 ≤ s.lp) (hp : s.lp + ((r.siz : Nat) : Int) ≤ 1000000) :
    Calls Tryz.prog 39 #[.pointer (some ⟨b, 0, none⟩), .slice a r.len c] W (CP No b W (ckN nd r s)) := by
  have hlen := r.len_siz
  have HA : Hid (r = .nil ∨ ∃ g o, a = some ⟨g, o, none⟩) := by
    cases r with
    | nil => exact .inl rfl
    | cons k t n p ks r' => obtain ⟨g, o, _, _, e, _⟩ := hr.cons; exact .inr ⟨g, o, e⟩
  have H0 : Hid (Ck No b s W ∧ Rv W No a r) := ⟨h, hr⟩
  clear h hr
  go_enter Tryz.func39, Tryz.ntmps39
  go_wp2_with fail
  go_loopw [5, 8] (fun _ iv wx => ∃ (i : Nat) (q : F) (s' : Cs), iv = .int .i64 (i : Nat) ∧ i + q.len = r.len ∧ Hid (Ck No b s' wx ∧ Kn No W wx ∧ (∀ g o, a = some ⟨g, o, none⟩ → Rv wx No (some ⟨g, o + i * 5, none⟩) q) ∧ ckN nd q s' = ckN nd r s ∧ q.siz ≤ r.siz ∧ q.wfC = true ∧ s'.wt + 4 * q.siz ≤ 1000000 ∧ s'.lp = s.lp)) (fun _ iv _ => r.len - (intOf iv).toNat)
  case atStart => exact ⟨0, r, s, rfl, by omega, H0.out.1, Kn.refl _ _, fun g o e => by have := H0.out.2; rw [e] at this; simpa using this, rfl, Nat.le_refl _, hw, hL, rfl⟩
  case round =>
    clear H0
    obtain ⟨i, q, s', rfl, hi, HR⟩ := hrel
    cases q with
    | nil =>
      have h1 : ¬ (i : Int) < (r.len : Int) := by simp only [F.len] at hi; omega
      have HE : Hid (CP No b W (ckN nd r s) (.returned (.tuple #[])) wr) := by
        obtain ⟨q1, q2, _, q3, _⟩ := HR.out
        rw [← q3]
        exact ⟨rfl, q1, q2⟩
      go_wp2
      go_end0
      exact HE.out
    | cons k t n p ks q' =>
      simp only [F.len] at hi
      obtain ⟨hC, hK, hRv, hE, hz, hwf, hwt, hlp⟩ := HR.out
      obtain ⟨g, o, rfl⟩ : ∃ g o, a = some ⟨g, o, none⟩ := HA.out.resolve_left fun e => by rw [e] at hi; simp only [F.len] at hi; omega
      have hRv := hRv g o rfl
      obtain ⟨g', o', a', c', e1, hg, c0, c1, c2, c3, c4, hKs, hNx, hcc⟩ := hRv.cons
      injection e1 with e1
      injection e1 with e1 e2
      subst e1 e2
      simp only [F.siz] at hz hwt
      obtain ⟨hw1, hw2⟩ := F.wfC_cons hwf
      have h1 : (i : Int) < (r.len : Int) := by omega
      have wi : IntKind.i64.wrap ((i : Int) + 1) = (i : Int) + 1 := by rw [IntKind.wrap_i64]; omega
      have X := Bx.new wr 42 #[.int .i64 k, .string ⟨t.toArray⟩, .int .i64 n, .int .i64 p, .slice a' ks.len c']
      have C := CE No b s' (wr.alloc (.cells #[.int .i64 (k), .string ⟨(t).toArray⟩, .int .i64 (n), .int .i64 (p), .slice a' ks.len c'] 42)) k t n p a' c' ks (hC.alloc _) (hKs.kn ((Kn.refl _ _).alloc _)) (by omega) hw1 hcc (by omega) (by omega) (by omega)
      have HK : Hid (Kn No W (wr.alloc (.cells #[.int .i64 (k), .string ⟨(t).toArray⟩, .int .i64 (n), .int .i64 (p), .slice a' ks.len c'] 42)) ∧ Rv (wr.alloc (.cells #[.int .i64 (k), .string ⟨(t).toArray⟩, .int .i64 (n), .int .i64 (p), .slice a' ks.len c'] 42)) No (some ⟨g, o + i * 5 + 5, none⟩) q' ∧ ckN nd q' (nd k t n p ks s') = ckN nd r s) := ⟨hK.alloc _, hNx.kn ((Kn.refl _ _).alloc _), hE⟩
      obtain ⟨W1, hW1⟩ : ∃ W1, wr.alloc (.cells #[.int .i64 (k), .string ⟨(t).toArray⟩, .int .i64 (n), .int .i64 (p), .slice a' ks.len c'] 42) = W1 := ⟨_, rfl⟩
      rw [hW1] at X C HK
      obtain ⟨p0, p1, p2, p3, p4⟩ := X.five
      have HG := H k t n p ks s'
      have hgw := HG.wt
      have hgl := HG.lp
      have HS : Hid ((nd k t n p ks s').wt + 4 * q'.siz ≤ 1000000 ∧ (nd k t n p ks s').lp = s.lp ∧ q'.siz ≤ r.siz) := ⟨by omega, by omega, by omega⟩
      clear hC hK hRv hE HR hKs hNx X HG hgw hgl hlp
      go_wp2_with fail
      refine C.mono ?_; rintro e w2 ⟨rfl, hc1, hc2⟩
      have HF : Hid (Ck No b (nd k t n p ks s') w2 ∧ Kn No W w2 ∧ (∀ g' o', some (⟨g, o, none⟩ : Addr) = some ⟨g', o', none⟩ → Rv w2 No (some ⟨g', o' + (i + 1) * 5, none⟩) q')) := ⟨hc1, HK.out.1.trans hc2, fun g' o' e => by
        injection e with e
        injection e with e1 e2
        subst e1 e2
        have := HK.out.2.1.kn hc2
        rw [show o + (i + 1) * 5 = o + i * 5 + 5 by omega]
        exact this⟩
      clear C hc1 hc2
      go_wp2
      refine ⟨⟨i + 1, q', nd k t n p ks s', by go_num, by omega, HF.out.1, HF.out.2.1, HF.out.2.2, HK.out.2.2, HS.out.2.2, hw2, HS.out.1, HS.out.2.1⟩, ?_⟩
      simp [intOf]; omega

/-- Texts more among the locals. -/
theorem CK.appL {No : Nat → Prop} {b : Nat} {x : Cx} {s : Cs} {w w3 : World} {ys : List Tx} {g' cc : Nat} {o : Obj} (h : CK No b x s w) (hown : w3.ownsRow 0 9 1 (.slice (some ⟨g', 0, none⟩) (s.lo.length + ys.length) cc) (s.lo.length + ys.length) (strs s.lo ++ strs ys))
    (hg3 : (w.alloc o).grownBy w3 x.vL.ownBlock) (hat : x.vL.ownBlock = some g' ∨ g' = (w.alloc o).heap.size) : Ck No b { s with lo := s.lo ++ ys } (w3.setCell ⟨b, 4, none⟩ (.slice (some ⟨g', 0, none⟩) (s.lo.length + ys.length) cc)) ∧ Kn No w (w3.setCell ⟨b, 4, none⟩ (.slice (some ⟨g', 0, none⟩) (s.lo.length + ys.length) cc)) := by
  have s3 := hg3.size
  have z1 : (w.alloc o).heap.size = w.heap.size + 1 := by simp
  have h1 := h.at h.lL (g' := g') (hat.imp id fun e => by omega)
  generalize hlab : (fun g => if g = g' then 4 else x.lab g) = lab' at h1
  have hl' : lab' g' = 4 := by rw [← hlab]; exact if_pos rfl
  have hbg : g' ≠ b := fun e => by have := h1.lb; rw [← e] at this; simp only at this; omega
  have k0 : Tr { x with lab := lab' } (fun l => l = 1 ∨ l = 4) w w3 := ((Tr.refl _ _ w).alloc o).trans (Tr.app hg3 h1.lL (.inr rfl))
  have k : Tr { x with lab := lab' } (fun l => l = 1 ∨ l = 4) w (w3.setCell ⟨b, 4, none⟩ (.slice (some ⟨g', 0, none⟩) (s.lo.length + ys.length) cc)) := k0.set (.inl h1.lb) _
  have hb3 : Bx b 63 (ccl x s) w3 := ⟨(hg3.block b (by have := h.lt; omega) (fun e => by have := h1.lL b e.symm; have := h1.lb; simp only at *; omega)).trans (h.bx.alloc o).blk⟩
  refine ⟨⟨{ x with vL := .slice (some ⟨g', 0, none⟩) (s.lo.length + ys.length) cc, lab := lab' }, ?_⟩, ?_⟩
  · refine ⟨hb3.put (j := 4) _, h1.fr' k (by simp), h1.gr' k (by simp), ?_, h1.ar' k (by simp), h1.mp' k (by simp), fun i _ _ hf hv => h1.cs' k (by omega) hf hv, h.vl, h1.lb, h1.lF, h1.lG, fun g hg => ?_, h.lA, h1.lm, h1.lc, h1.no' k.size, h.nu⟩
    · have e1 : strs (s.lo ++ ys) = strs s.lo ++ strs ys := by simp [strs]
      rw [List.length_append, e1]
      exact own_set hown (fun g hg => by have e2 : g' = g := by simpa [Value.ownBlock] using hg
                                         omega) _
    · have e2 : g' = g := by simpa [Value.ownBlock] using hg
      rw [← e2]; exact hl'
  · refine ⟨hg3.os, hg3.tape, hg3.output, k.size, fun g hg hn => k.block g hg ?_⟩
    rw [(h1.no g hn).2]; simp
end Go.Proofs.YtmejlldabdjpjaaGreat
