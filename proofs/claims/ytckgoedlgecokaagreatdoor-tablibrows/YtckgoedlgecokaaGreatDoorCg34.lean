/- The walk of TablibRows. -/
import Derived.Test.YtckgoedlgecokaaGreatDoorCg32
import Derived.BigRegion
import Derived.Deep.DeepCutAuto
import Derived.Deep.RegionLaw
namespace Go.Proofs.YtckgoedlgecokaaGreatDoor
open Go.RowKit
theorem below_set {N : Nat} {w w' : World} (b : Below N w w') (a : Addr) (v : Value) : Below N (w.setCell a v) (w'.setCell a v) := by
  refine ⟨b.os, b.tape, b.output, by simpa [World.setCell] using b.size, fun g hg => ?_⟩
  have e := b.block g hg
  simp [World.setCell, Array.getElem?_modify, e]
theorem RJ.base {w wx : World} {T S hb c K : Nat} {l m : List V} {v : Value} (h : RJ w T S hb c K l v m wx) {X : Nat} (hX : X < w.heap.size) (y : V) : RJ (set3 w X y) T S hb c K l v m (set3 wx X y) := by
  obtain ⟨No, h1, h2, h3⟩ := h.tw
  have hs : (set3 w X y).heap.size = w.heap.size := by simp [set3, World.setCell]
  have k : Keep (fun g => g ≠ X) wx (set3 wx X y) := ((((Keep.refl _ wx).set (p := ⟨X, 0, none⟩) (fun z => z rfl) _).set (p := ⟨X, 1, none⟩) (fun z => z rfl) _).set (p := ⟨X, 2, none⟩) (fun z => z rfl) _)
  refine ⟨⟨No, h1.set3 (h2 X hX) y, fun g q => h2 g (by omega), h3⟩, ?_, ?_⟩
  · rw [hs]
    exact h.lv.keep k fun q e => by have := (h.lv.own.lt q e).1; omega
  · rw [hs]
    exact below_set (below_set (below_set h.bl _ _) _ _) _ _
theorem slice_to (a : Option Addr) {q n r : Nat} (hr : r ≤ n) (hq : n ≤ q) (W : World) : (Instr.sliceAt 22 (.slice a n q) none (some (.int .i64 (r : Nat))) none).run Tryz.prog W = .ok (.slice a r q) W := by
  have : r ≤ q := by omega
  simp [go_sem, Instr.sliceAt, this]
theorem sv_take {W : World} {B : Nat} {m : List V} {a : Option Addr} {n q : Nat} (h : Lv W B (.slice a n q) m.length fun i => m.getD i nil) {r : Nat} (hr : r ≤ m.length) : Sv W (.slice a r q) (m.take r) := by
  rcases h.own.2 with ⟨e, h0⟩ | ⟨g, cap, cur, e, _, hg, hn, _⟩
  · injection e with e1 e2 e3
    have : r = 0 := by omega
    subst e1 e3 this
    exact .inl ⟨rfl, rfl⟩
  · injection e with e1 e2 e3
    subst e1 e3
    refine .inr ⟨⟨g, 0, none⟩, q, by rw [List.length_take, Nat.min_eq_left hr], fun j u hu => ?_⟩
    have hj : j < r * 3 := by have := (List.getElem?_eq_some_iff.1 hu).1; rw [cellsL_len, List.length_take, Nat.min_eq_left hr] at this; exact this
    refine h.own.cells (g := g) rfl j u ?_
    rw [cellsV_at _ _ _ (by rw [List.length_take, Nat.min_eq_left hr]; exact hj)] at hu
    rw [cellsV_at _ _ _ (by omega), ← hu]
    congr 2
    rw [List.getD_eq_getElem?_getD, List.getD_eq_getElem?_getD, List.getElem?_take_of_lt (by omega)]
theorem slice_from {m : List V} {a : Option Addr} {n q : Nat} (hq : m.length ≤ q) (hn : m.length = n) {r : Nat} (hr : r ≤ n) :
    ∃ a2 q2, (∀ W, (Instr.sliceAt 22 (.slice a n q) (some (.int .i64 (r : Nat))) none none).run Tryz.prog W = .ok (.slice a2 (n - r) q2) W) ∧ ∀ (W : World) (B : Nat), Lv W B (.slice a n q) m.length (fun i => m.getD i nil) → Sv W (.slice a2 (n - r) q2) (m.drop r) := by
  refine ⟨if q = r then a else a.map (·.add (r * 3)), q - r, fun W => ?_, fun W B h' => ?_⟩
  · have : r ≤ q := by omega
    simp [go_sem, Instr.sliceAt, hr]
  · rcases h'.own.2 with ⟨e, h0⟩ | ⟨g, cap, cur, e, _, hg, hn2, _⟩
    · injection e with e1 e2 e3
      have : r = 0 := by omega
      subst e1 e3 this
      refine .inl ⟨?_, List.eq_nil_of_length_eq_zero (by rw [List.length_drop]; omega)⟩
      simp; omega
    · injection e with e1 e2 e3
      subst e1 e3
      by_cases hlt : r < n
      · rw [if_neg (by omega)]
        refine .inr ⟨(⟨g, 0, none⟩ : Addr).add (r * 3), q - r, by rw [List.length_drop, hn]; rfl, fun j u hu => ?_⟩
        have hj : j < (n - r) * 3 := by have := (List.getElem?_eq_some_iff.1 hu).1; rw [cellsL_len, List.length_drop, hn] at this; exact this
        rw [Addr.add_add]
        refine h'.own.cells (g := g) rfl _ u ?_
        rw [cellsV_at _ _ _ (by rw [List.length_drop, hn]; exact hj)] at hu
        rw [cellsV_at _ _ _ (by rw [hn]; omega), ← hu, show (r * 3 + j) / 3 = r + j / 3 by omega, show (r * 3 + j) % 3 = j % 3 by omega]
        congr 2
        rw [List.getD_eq_getElem?_getD, List.getD_eq_getElem?_getD, List.getElem?_drop]
      · have e0 : r = n := by omega
        subst e0
        have ed : m.drop r = [] := List.eq_nil_of_length_eq_zero (by rw [List.length_drop]; omega)
        rw [ed, Nat.sub_self]
        by_cases e1 : q = r
        · rw [if_pos e1]
          exact .inr ⟨⟨g, 0, none⟩, q - r, rfl, fun j u hu => by simp [cellsL, cellsV] at hu⟩
        · rw [if_neg e1]
          exact .inr ⟨_, q - r, rfl, fun j u hu => by simp [cellsL, cellsV] at hu⟩
theorem RK.apps2 {w wx : World} {B T S hb c K : Nat} {l m n : List V} {v u : Value} (h : RK w B T S hb c K l v m u n wx) {s : Value} {ys : List V} (hs : Sv wx s ys) (hn : n.length + ys.length ≤ 1000) :
    ∃ a q w', (Builtin.append_ #[22, 22] 22 #[u, s]).run Tryz.prog wx = .ok (.slice a (n.length + ys.length) q) w' ∧ RK w B T S hb c K l v m (.slice a (n.length + ys.length) q) (n ++ ys) w' ∧ wx.grownBy w' u.ownBlock ∧ ((Value.slice a (n.length + ys.length) q).ownBlock = u.ownBlock ∨ (Value.slice a (n.length + ys.length) q).ownBlock = some wx.heap.size) := by
  obtain ⟨a, q, w', hr, hl, hg, at'⟩ := lv_apps h.lu hs hn h.le.2
  exact ⟨a, q, w', hr, h.grow hg hl at', hg, at'⟩
theorem step_run {ops : Array Oper} {o : Oper} {ac : Act} {K : Act → World → Prop} {Q : Exit → Act → World → Prop} {E : Prop} {W W' : World} {v u r : Value} (hgd : o.guard = none) (s y : Operand)
    (ho : o.op = .call { callee := .builtin .append, args := #[s, y], argTypes := #[22, 22] }) (hty : o.type = 22) (hs : ac.eval s = v) (hy : ac.eval y = u) (hr : (Builtin.append_ #[22, 22] 22 #[v, u]).run Tryz.prog W = .ok r W') (h : K (ac.put o.dst r) W') :
    if Region.wanted o (yielded ops ac.tmps) = true then Oper.wp Tryz.prog o ac W K Q else E := by
  have hw : Region.wanted o (yielded ops ac.tmps) = true := by simp [Region.wanted, hgd]
  rw [if_pos hw]
  unfold Oper.wp execOp
  simp only [ho, hty, resolve, invoke, builtin, Sem.run_bind, Sem.run_pure, Result.andThen_ok, List.map_toArray, List.map_cons, List.map_nil, hs, hy, hr]
  exact h
theorem pos1_facts (k : Int) (n : Nat) (h1 : n ≤ 1000) : ∃ U r : Nat, IntKind.u64.wrap k = (U : Int) ∧ IntKind.u64.wrap ((n : Int) + 1) = (n : Int) + 1 ∧ (U : Int).tmod ((n : Int) + 1) = (r : Int) ∧ IntKind.u64.wrap (r : Int) = (r : Int) ∧ IntKind.i64.wrap (r : Int) = (r : Int) ∧ wrap64 (r : Int) = (r : Int) ∧ IntKind.i64.wrap (1 + (r : Int)) = (r : Int) + 1 ∧ r ≤ n := by
  obtain ⟨U, r, a, b, c, d, e, f, g⟩ := pos_facts k (n + 1) (by omega) (by omega)
  rw [show ((n + 1 : Nat) : Int) = (n : Int) + 1 by omega] at b c
  exact ⟨U, r, a, b, c, d, e, f, pos_succ (by omega), by omega⟩
end Go.Proofs.YtckgoedlgecokaaGreatDoor

/- A region that draws its order, by a fact that each operation keeps. -/
namespace Go.Proofs.YtckgoedlgecokaaGreatDoor
open Go.RowKit

theorem wpAny_inv {P : Program} {ops : Array Oper} {Q : Exit → Act → World → Prop} {md : Region.Mode} (I : Array Bool → Act → World → Prop)
    (hz : ∀ l a w, I l a w → l.size = ops.size)
    (hs : ∀ l a w, I l a w → ∀ i ∈ Region.ready md ops l, wpOp P ops Q i (I (l.setIfInBounds i true)) a w)
    (hd : ∀ l a w, I l a w → Region.ready md ops l = [] → Q .normal a w) :
    ∀ (fuel : Nat) (l : Array Bool) (a : Act) (w : World), l.toList.count false ≤ fuel → I l a w → wpAny P md ops Q fuel l a w := by
  intro fuel
  induction fuel with
  | zero =>
    intro l a w hc h
    have hr : Region.ready md ops l = [] := by
      unfold Region.ready
      rw [List.filter_eq_nil_iff]
      intro i hi
      have hi := List.mem_range.1 hi
      rw [← hz l a w h] at hi
      have hc0 : l.toList.count false = 0 := by omega
      have hm : ¬ false ∈ l.toList := List.count_eq_zero.1 hc0
      have : l.getD i true = true := by
        cases hb : l.getD i true with
        | true => rfl
        | false =>
          exfalso
          apply hm
          rw [Array.getD_eq_getD_getElem?, Array.getElem?_eq_getElem hi] at hb
          have : l[i] = false := hb
          rw [← this, Array.mem_toList_iff]
          exact Array.getElem_mem hi
      simp [this]
    exact ⟨hr, hd l a w h hr⟩
  | succ fuel ih =>
    intro l a w hc h
    refine ⟨fun hr => hd l a w h hr, fun i hi => ?_⟩
    refine wpOp_mono (fun a' w' h' => ih _ a' w' ?_ h') (hs l a w h i hi)
    unfold Region.ready at hi
    have h1 := List.mem_filter.1 hi
    have h2 := List.mem_range.1 h1.1
    rw [← hz l a w h] at h2
    have h3 : l.getD i true = false := by
      have := h1.2
      simp only [Bool.and_eq_true, Bool.not_eq_true'] at this
      exact this.1
    rw [Array.getD_eq_getD_getElem?, Array.getElem?_eq_getElem h2] at h3
    have h3 : l[i] = false := h3
    have e : (l.setIfInBounds i true).toList = l.toList.set i true := by simp
    rw [e, List.count_set (by simpa using h2)]
    have h4 : l.toList[i]'(by simpa using h2) = false := by simpa using h3
    rw [h4]
    have e1 : (if (false == false) = true then 1 else 0) = 1 := rfl
    have e2 : (if (true == false) = true then 1 else 0) = 0 := rfl
    rw [e1, e2]
    omega
theorem ready_get {md : Region.Mode} {ops : Array Oper} {l : Array Bool} {i : Nat} {o : Oper} (hi : i ∈ Region.ready md ops l) (ho : ops[i]? = some o) : l.getD i false = false ∧ ∀ e ∈ o.after.toList, Region.binds md e = true → l.getD e.on false = true := by
  unfold Region.ready at hi
  have h1 := (List.mem_filter.1 hi).2
  rw [ho] at h1
  simp only [Option.map_some, Option.getD_some, Bool.and_eq_true, Bool.not_eq_true'] at h1
  refine ⟨?_, fun e he hb => ?_⟩
  · have h2 := h1.1
    rw [Array.getD_eq_getD_getElem?] at h2 ⊢
    cases hq : l[i]? with
    | none => rw [hq] at h2; cases h2
    | some b => rw [hq] at h2; exact h2
  · have h3 := h1.2
    rw [Array.all_eq_true'] at h3
    have := h3 e (by simpa using he)
    rw [hb] at this
    simpa using this
theorem wpOp_val {P : Program} {ops : Array Oper} {Q : Exit → Act → World → Prop} {i d : Nat} {o : Oper} {K : Act → World → Prop} {a : Act} {w w' : World} {v : Value} (ho : ops[i]? = some o) (hw : Region.wanted o (yielded ops a.tmps) = true) (hd : o.dst = some d) (hr : (execOp a.eval o).run P w = .ok (.value v) w') (hK : K (a.put (some d) v) w') : wpOp P ops Q i K a w := by
  unfold wpOp
  rw [ho]
  simp only [hw, if_true]
  refine .inl ?_
  unfold Oper.wp
  rw [hr, ← hd] at *
  exact hK
theorem tmp_at {a : Act} {k : Nat} {v : Value} (h : a.tmps.getD k undef = v) : a.tmps[k]?.getD undef = v := by rw [← Array.getD_eq_getD_getElem?]; exact h
theorem ready_lt {md : Region.Mode} {ops : Array Oper} {l : Array Bool} {i : Nat} (hi : i ∈ Region.ready md ops l) : i < ops.size := by
  unfold Region.ready at hi
  exact List.mem_range.1 (List.mem_filter.1 hi).1
theorem ready_nil {md : Region.Mode} {ops : Array Oper} {l : Array Bool} {i : Nat} {o : Oper} (hr : Region.ready md ops l = []) (hz : l.size = ops.size) (ho : ops[i]? = some o) (hdep : ∀ e ∈ o.after.toList, l.getD e.on false = true) : l.getD i false = true := by
  have hi : i < ops.size := (Array.getElem?_eq_some_iff.1 ho).1
  cases hb : l.getD i false with
  | true => rfl
  | false =>
    exfalso
    have : i ∈ Region.ready md ops l := by
      unfold Region.ready
      refine List.mem_filter.2 ⟨List.mem_range.2 hi, ?_⟩
      have h1 : l.getD i true = false := by
        rw [Array.getD_eq_getD_getElem?, Array.getElem?_eq_getElem (by omega)] at hb ⊢
        exact hb
      rw [h1, ho]
      simp only [Option.map_some, Option.getD_some, Bool.not_false, Bool.true_and]
      rw [Array.all_eq_true']
      intro e he
      rw [hdep e (by simpa using he)]
      simp
    rw [hr] at this
    cases this
theorem wpOp_law {P : Program} {ops : Array Oper} {Q : Exit → Act → World → Prop} {i : Nat} {o : Oper} {K : Act → World → Prop} {a : Act} {w : World} (ho : ops[i]? = some o) (hw : Region.wanted o (yielded ops a.tmps) = true) (h : if Region.wanted o (yielded ops a.tmps) = true then Oper.wp P o a w K Q else False) : wpOp P ops Q i K a w := by
  unfold wpOp
  rw [ho]
  simp only [hw, if_true] at h ⊢
  exact .inl h
theorem wpOp_call {P : Program} {ops : Array Oper} {Q : Exit → Act → World → Prop} {i d f : Nat} {o : Oper} {K : Act → World → Prop} {a : Act} {w : World} {args : Array Value} (ho : ops[i]? = some o) (hw : Region.wanted o (yielded ops a.tmps) = true) (hd : o.dst = some d) (hr : (execOp a.eval o).run P w = .ok (.enter f args) w)
    (hC : Calls P f args w fun e w' => ∃ v, e = .returned v ∧ K (a.put (some d) v) w') : wpOp P ops Q i K a w := by
  unfold wpOp
  rw [ho]
  simp only [hw, if_true]
  refine .inl ?_
  unfold Oper.wp
  rw [hr, Oper.upon_enter]
  refine hC.mono fun e w' ⟨v, he, hk⟩ => ?_
  subst he
  rw [hd]
  exact hk
theorem getD_set {α : Type} (t : Array α) (d k : Nat) (u z : α) : (t.setIfInBounds d u).getD k z = if d = k ∧ d < t.size then u else t.getD k z := by
  rw [Array.getD_eq_getD_getElem?, Array.getD_eq_getD_getElem?, Array.getElem?_setIfInBounds]
  by_cases h : d = k
  · subst h
    by_cases h2 : d < t.size
    · simp [h2]
    · simp [h2]
  · simp [h]
/-- The state of a region that reads, makes boxes and goes on along one chain: what is done (l) tells the slots' values, and how far the chain is. Fx: slots that stay; Pu: operations that only reckon, with their slots (pv: the values); Al: those that make a box (av: its cells); Ch: the chain. -/
structure Ir (n tz : Nat) (Fx : List Nat) (fv : Nat → Value) (Pu : List (Nat × Nat)) (pv : Nat → Value) (Al : List (Nat × Nat)) (av : Nat → Array Value) (Ch : List (Nat × Nat)) (v0 : Value) (Ly : Nat → List (Nat × Array Value) → Value → World → Prop) (l : Array Bool) (a : Act) (w : World) : Prop where
  sz : l.size = n
  tz : a.tmps.size = tz
  df : a.defers = []
  fx : ∀ x ∈ Fx, a.tmps.getD x undef = fv x
  pu : ∀ x ∈ Pu, l.getD x.1 false = true → a.tmps.getD x.2 undef = pv x.1
  ex : ∃ B v s, s ≤ Ch.length ∧ Ly s B v w ∧ (∀ x ∈ Al, l.getD x.1 false = true → ∃ g, a.tmps.getD x.2 undef = .slice (some ⟨g, 0, none⟩) 1 1 ∧ (g, av x.1) ∈ B) ∧
    (∀ j c, Ch[j]? = some c → (l.getD c.1 false = true ↔ j < s)) ∧ (s = 0 → v = v0) ∧ (∀ j c, s = j + 1 → Ch[j]? = some c → v = a.tmps.getD c.2 undef)
section
variable {n tz : Nat} {Fx : List Nat} {fv : Nat → Value} {Pu : List (Nat × Nat)} {pv : Nat → Value} {Al : List (Nat × Nat)} {av : Nat → Array Value} {Ch : List (Nat × Nat)} {v0 : Value} {Ly : Nat → List (Nat × Array Value) → Value → World → Prop} {l : Array Bool} {a : Act} {w w' : World}
/-- One that only reckons is done. -/
theorem Ir.pure (h : Ir n tz Fx fv Pu pv Al av Ch v0 Ly l a w) (i d : Nat) (v : Value) (hv : v = pv i)
    (h1 : ¬ d ∈ Fx) (h2 : ∀ x ∈ Pu, x.1 = i ∨ (x.1 ≠ i ∧ x.2 ≠ d)) (h3 : ∀ x ∈ Al, x.1 ≠ i ∧ x.2 ≠ d) (h4 : ∀ x ∈ Ch, x.1 ≠ i ∧ x.2 ≠ d) (h5 : ∀ x ∈ Pu, x.1 = i → x.2 = d) (hd : d < tz) : Ir n tz Fx fv Pu pv Al av Ch v0 Ly (l.setIfInBounds i true) (a.put (some d) v) w := by
  obtain ⟨B, u, s, e1, e2, e3, e4, e5, e6⟩ := h.ex
  have hg : ∀ k, k ≠ d → (a.tmps.setIfInBounds d v).getD k undef = a.tmps.getD k undef := fun k hk => by rw [getD_set, if_neg (fun e => hk e.1.symm)]
  have hl : ∀ k, k ≠ i → (l.setIfInBounds i true).getD k false = l.getD k false := fun k hk => by rw [getD_set, if_neg (fun e => hk e.1.symm)]
  refine ⟨by simpa using h.sz, by simpa [Act.put] using h.tz, h.df, fun x hx => ?_, fun x hx hb => ?_, B, u, s, e1, e2, fun x hx hb => ?_, fun j c hc => ?_, e5, fun j c hs hc => ?_⟩
  · exact (hg x (fun e => h1 (e ▸ hx))).trans (h.fx x hx)
  · rcases h2 x hx with e | ⟨e, e'⟩
    · have := h5 x hx e
      show (a.tmps.setIfInBounds d v).getD x.2 undef = _
      rw [this, getD_set, if_pos ⟨rfl, by rw [h.tz]; exact hd⟩, e, hv]
    · rw [hl x.1 e] at hb
      exact (hg x.2 e').trans (h.pu x hx hb)
  · obtain ⟨q1, q2⟩ := h3 x hx
    rw [hl x.1 q1] at hb
    obtain ⟨g, g1, g2⟩ := e3 x hx hb
    exact ⟨g, (hg x.2 q2).trans g1, g2⟩
  · rw [hl c.1 (h4 c (List.mem_of_getElem? hc)).1]
    exact e4 j c hc
  · exact (e6 j c hs hc).trans (hg c.2 (h4 c (List.mem_of_getElem? hc)).2).symm
/-- A box is made. -/
theorem Ir.box (h : Ir n tz Fx fv Pu pv Al av Ch v0 Ly l a w) (i d : Nat) (hLy : ∀ s B v, Ly s B v w → Ly s ((w.heap.size, av i) :: B) v w')
    (h1 : ¬ d ∈ Fx) (h2 : ∀ x ∈ Pu, x.1 ≠ i ∧ x.2 ≠ d) (h3 : ∀ x ∈ Al, (x.1 = i ∧ x.2 = d) ∨ (x.1 ≠ i ∧ x.2 ≠ d)) (h4 : ∀ x ∈ Ch, x.1 ≠ i ∧ x.2 ≠ d) (hd : d < tz) : Ir n tz Fx fv Pu pv Al av Ch v0 Ly (l.setIfInBounds i true) (a.put (some d) (.slice (some ⟨w.heap.size, 0, none⟩) 1 1)) w' := by
  obtain ⟨B, u, s, e1, e2, e3, e4, e5, e6⟩ := h.ex
  obtain ⟨v, hv⟩ : ∃ v, Value.slice (some ⟨w.heap.size, 0, none⟩) 1 1 = v := ⟨_, rfl⟩
  rw [hv]
  have hg : ∀ k, k ≠ d → (a.tmps.setIfInBounds d v).getD k undef = a.tmps.getD k undef := fun k hk => by rw [getD_set, if_neg (fun e => hk e.1.symm)]
  have hl : ∀ k, k ≠ i → (l.setIfInBounds i true).getD k false = l.getD k false := fun k hk => by rw [getD_set, if_neg (fun e => hk e.1.symm)]
  refine ⟨by simpa using h.sz, by simpa [Act.put] using h.tz, h.df, fun x hx => ?_, fun x hx hb => ?_, (w.heap.size, av i) :: B, u, s, e1, hLy s B u e2, fun x hx hb => ?_, fun j c hc => ?_, e5, fun j c hs hc => ?_⟩
  · exact (hg x (fun e => h1 (e ▸ hx))).trans (h.fx x hx)
  · obtain ⟨q1, q2⟩ := h2 x hx
    rw [hl x.1 q1] at hb
    exact (hg x.2 q2).trans (h.pu x hx hb)
  · rcases h3 x hx with ⟨q1, q2⟩ | ⟨q1, q2⟩
    · refine ⟨w.heap.size, ?_, by rw [q1]; exact List.mem_cons_self ..⟩
      show (a.tmps.setIfInBounds d v).getD x.2 undef = _
      rw [q2, getD_set, if_pos ⟨rfl, by rw [h.tz]; exact hd⟩, hv]
    · rw [hl x.1 q1] at hb
      obtain ⟨g, g1, g2⟩ := e3 x hx hb
      exact ⟨g, (hg x.2 q2).trans g1, List.mem_cons_of_mem _ g2⟩
  · rw [hl c.1 (h4 c (List.mem_of_getElem? hc)).1]
    exact e4 j c hc
  · exact (e6 j c hs hc).trans (hg c.2 (h4 c (List.mem_of_getElem? hc)).2).symm
/-- Where the chain stands ahead of its j-th operation. -/
theorem Ir.at (h : Ir n tz Fx fv Pu pv Al av Ch v0 Ly l a w) (j : Nat) (c : Nat × Nat) (hc : Ch[j]? = some c) (hn : l.getD c.1 false = false) (hp : ∀ i c', j = i + 1 → Ch[i]? = some c' → l.getD c'.1 false = true) :
    ∃ B v, Ly j B v w ∧ (∀ x ∈ Al, l.getD x.1 false = true → ∃ g, a.tmps.getD x.2 undef = .slice (some ⟨g, 0, none⟩) 1 1 ∧ (g, av x.1) ∈ B) ∧ (j = 0 → v = v0) ∧ (∀ i c', j = i + 1 → Ch[i]? = some c' → v = a.tmps.getD c'.2 undef) := by
  obtain ⟨B, u, s, e1, e2, e3, e4, e5, e6⟩ := h.ex
  have h1 : ¬ j < s := fun e => by have := (e4 j c hc).2 e; rw [this] at hn; cases hn
  have hs : s = j := by
    cases j with
    | zero => omega
    | succ i =>
      have hj := (List.getElem?_eq_some_iff.1 hc).1
      obtain ⟨c', hc'⟩ : ∃ c', Ch[i]? = some c' := ⟨Ch[i], List.getElem?_eq_getElem (by omega)⟩
      have := (e4 i c' hc').1 (hp i c' rfl hc')
      omega
  subst hs
  exact ⟨B, u, e2, e3, e5, e6⟩
/-- The chain's j-th operation is done. -/
theorem Ir.next (h : Ir n tz Fx fv Pu pv Al av Ch v0 Ly l a w) (j i d : Nat) (v : Value) (B : List (Nat × Array Value)) (hc : Ch[j]? = some (i, d)) (hn : l.getD i false = false) (hp : ∀ i' c', j = i' + 1 → Ch[i']? = some c' → l.getD c'.1 false = true) (hL : Ly (j + 1) B v w')
    (hA : ∀ x ∈ Al, l.getD x.1 false = true → ∃ g, a.tmps.getD x.2 undef = .slice (some ⟨g, 0, none⟩) 1 1 ∧ (g, av x.1) ∈ B)
    (h1 : ¬ d ∈ Fx) (h2 : ∀ x ∈ Pu, x.1 ≠ i ∧ x.2 ≠ d) (h3 : ∀ x ∈ Al, x.1 ≠ i ∧ x.2 ≠ d) (h4 : ∀ j' c, Ch[j']? = some c → j' = j ∨ (c.1 ≠ i ∧ c.2 ≠ d)) (hi : i < n) (hd : d < tz) : Ir n tz Fx fv Pu pv Al av Ch v0 Ly (l.setIfInBounds i true) (a.put (some d) v) w' := by
  obtain ⟨B', u, s, e1, e2, e3, e4, e5, e6⟩ := h.ex
  have hj := (List.getElem?_eq_some_iff.1 hc).1
  have hs : s = j := by
    have q1 : ¬ j < s := fun e => by have := (e4 j _ hc).2 e; rw [this] at hn; cases hn
    cases j with
    | zero => omega
    | succ i' =>
      obtain ⟨c', hc'⟩ : ∃ c', Ch[i']? = some c' := ⟨Ch[i'], List.getElem?_eq_getElem (by omega)⟩
      have := (e4 i' c' hc').1 (hp i' c' rfl hc')
      omega
  have hg : ∀ k, k ≠ d → (a.tmps.setIfInBounds d v).getD k undef = a.tmps.getD k undef := fun k hk => by rw [getD_set, if_neg (fun e => hk e.1.symm)]
  have hl : ∀ k, k ≠ i → (l.setIfInBounds i true).getD k false = l.getD k false := fun k hk => by rw [getD_set, if_neg (fun e => hk e.1.symm)]
  refine ⟨by simpa using h.sz, by simpa [Act.put] using h.tz, h.df, fun x hx => ?_, fun x hx hb => ?_, B, v, j + 1, hj, hL, fun x hx hb => ?_, fun j' c hc' => ?_, fun e => absurd e (by omega), fun j' c hs' hc' => ?_⟩
  · exact (hg x (fun e => h1 (e ▸ hx))).trans (h.fx x hx)
  · obtain ⟨q1, q2⟩ := h2 x hx
    rw [hl x.1 q1] at hb
    exact (hg x.2 q2).trans (h.pu x hx hb)
  · obtain ⟨q1, q2⟩ := h3 x hx
    rw [hl x.1 q1] at hb
    obtain ⟨g, g1, g2⟩ := hA x hx hb
    exact ⟨g, (hg x.2 q2).trans g1, g2⟩
  · rcases h4 j' c hc' with e | ⟨q1, q2⟩
    · subst e
      rw [hc] at hc'
      injection hc' with hc'
      subst hc'
      rw [getD_set, if_pos ⟨rfl, by rw [h.sz]; exact hi⟩]
      exact ⟨fun _ => by omega, fun _ => rfl⟩
    · rw [hl c.1 q1, e4 j' c hc', hs]
      have : j' ≠ j := fun e => by
        subst e
        rw [hc] at hc'
        injection hc' with hc'
        exact q1 (by rw [← hc'])
      omega
  · have : j' = j := by omega
    subst this
    rw [hc] at hc'
    injection hc' with hc'
    subst hc'
    show v = (a.tmps.setIfInBounds d v).getD d undef
    rw [getD_set, if_pos ⟨rfl, by rw [h.tz]; exact hd⟩]
end
theorem Ir.start {n tz : Nat} {Fx : List Nat} {fv : Nat → Value} {Pu : List (Nat × Nat)} {pv : Nat → Value} {Al : List (Nat × Nat)} {av : Nat → Array Value} {Ch : List (Nat × Nat)} {v0 : Value} {Ly : Nat → List (Nat × Array Value) → Value → World → Prop} {a : Act} {w : World} (ht : a.tmps.size = tz) (hd : a.defers = []) (hf : ∀ x ∈ Fx, a.tmps.getD x undef = fv x) (hL : Ly 0 [] v0 w) : Ir n tz Fx fv Pu pv Al av Ch v0 Ly (Array.replicate n false) a w := by
  have h0 : ∀ k, (Array.replicate n false).getD k false = false := fun k => by
    rw [Array.getD_eq_getD_getElem?, Array.getElem?_replicate]
    split <;> rfl
  refine ⟨by simp, ht, hd, hf, fun x _ hb => ?_, [], v0, 0, Nat.zero_le _, hL, fun x _ hb => ?_, fun j c _ => ⟨fun hb => ?_, fun h => absurd h (Nat.not_lt_zero _)⟩, fun _ => rfl, fun j c e => absurd e (by omega)⟩
  · rw [h0] at hb; cases hb
  · rw [h0] at hb; cases hb
  · rw [h0] at hb; cases hb
theorem chain_other (Ch : List (Nat × Nat)) (j i d : Nat) (h : (List.range Ch.length).all (fun k => k == j || ((Ch[k]?).map fun c => c.1 != i && c.2 != d).getD true) = true) : ∀ j' c, Ch[j']? = some c → j' = j ∨ (c.1 ≠ i ∧ c.2 ≠ d) := by
  intro k c hc
  have hk : k < Ch.length := (List.getElem?_eq_some_iff.1 hc).1
  have := List.all_eq_true.1 h k (List.mem_range.2 hk)
  rw [hc] at this
  simpa using this
/-- Slots that the region leaves, and the one that it reads first and writes last. -/
structure Ex (D : List Nat) (a0 : Act) (l : Array Bool) (a : Act) : Prop where
  tz : a.tmps.size = a0.tmps.size
  df : a.defers = a0.defers
  fx : ∀ x, ¬ x ∈ D → a.tmps.getD x undef = a0.tmps.getD x undef
  s13 : l.getD 0 false = false → a.tmps.getD 13 undef = .slice none 0 0
theorem Ex.start {D : List Nat} {a : Act} {l : Array Bool} (h : a.tmps.getD 13 undef = .slice none 0 0) : Ex D a l a := ⟨rfl, rfl, fun _ _ => rfl, fun _ => h⟩
theorem Ex.put {D : List Nat} {a0 a : Act} {l : Array Bool} (h : Ex D a0 l a) (i d : Nat) (v : Value) (hd : d ∈ D) (h13 : d ≠ 13 ∨ l.getD 0 false = true) : Ex D a0 (l.setIfInBounds i true) (a.put (some d) v) := by
  refine ⟨by simpa [Act.put] using h.tz, h.df, fun x hx => ?_, fun hl => ?_⟩
  · show (a.tmps.setIfInBounds d v).getD x undef = _
    rw [getD_set, if_neg (by rintro ⟨rfl, _⟩; exact hx hd)]
    exact h.fx x hx
  · have hl0 : l.getD 0 false = false := by
      rw [getD_set] at hl
      split at hl
      · cases hl
      · exact hl
    rcases h13 with h13 | h13
    · show (a.tmps.setIfInBounds d v).getD 13 undef = _
      rw [getD_set, if_neg (by rintro ⟨e, _⟩; exact h13 e)]
      exact h.s13 hl0
    · rw [h13] at hl0; cases hl0
/-- The slots written, one behind the other. -/
def putAll (a0 : Act) (f : Nat → Value) : List Nat → Act
  | [] => a0
  | d :: r => putAll (a0.put (some d) (f d)) f r
theorem act_puts (a : Act) : ∀ (D : List Nat) (a0 : Act), a.defers = a0.defers → a.tmps.size = a0.tmps.size → (∀ x, ¬ x ∈ D → a.tmps.getD x undef = a0.tmps.getD x undef) → a = putAll a0 (fun d => a.tmps.getD d undef) D
  | [], a0, hd, hz, h => by
    obtain ⟨t, d⟩ := a
    obtain ⟨t0, d0⟩ := a0
    simp only at hd hz h
    subst hd
    have e : t = t0 := by
      refine Array.ext hz fun i h1 h2 => ?_
      have := h i (by simp)
      rw [Array.getD_eq_getD_getElem?, Array.getD_eq_getD_getElem?, Array.getElem?_eq_getElem h1, Array.getElem?_eq_getElem h2] at this
      exact this
    subst e
    rfl
  | d :: r, a0, hd, hz, h => by
    rw [putAll]
    refine act_puts a r _ hd (by simpa [Act.put] using hz) fun x hx => ?_
    show _ = (a0.tmps.setIfInBounds d (a.tmps.getD d undef)).getD x undef
    rw [getD_set]
    by_cases e : d = x
    · subst e
      by_cases h2 : d < a0.tmps.size
      · rw [if_pos ⟨rfl, h2⟩]
      · rw [if_neg (fun q => h2 q.2), Array.getD_eq_getD_getElem?, Array.getD_eq_getD_getElem?, Array.getElem?_eq_none (by omega), Array.getElem?_eq_none (by omega)]
    · rw [if_neg (fun q => e q.1)]
      exact h x (by simp; exact ⟨fun q => e q.symm, hx⟩)
end Go.Proofs.YtckgoedlgecokaaGreatDoor
