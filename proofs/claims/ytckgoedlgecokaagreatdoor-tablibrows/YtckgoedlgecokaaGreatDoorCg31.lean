/- How the other cases that came in are read: a value; a row with three numbers; texts with a text and two numbers. -/
import Derived.Test.YtckgoedlgecokaaGreatDoorCg27
import Derived.Test.YtckgoedlgecokaaGreatDoorCg26
import Derived.Test.YtckgoedlgecokaaGreatDoorCg29
import Derived.Maps.AppendAt
namespace Go.Proofs.YtckgoedlgecokaaGreatDoor
open Go.RowKit Go.ChangeShapes Go.WideShapes Go.ChangeAt Go.Deep
set_option maxRecDepth 100000 in
theorem open_shift {H : Type} {enc : TypeId × Value → H} {W : World} {base b0 : Nat} {held : Bool} {r : Reach} {v : Value} {d : DataW H} {ps : List MemPlace}
    (hval : Value.okWide Tryz.prog W r b0 49 v) (hd : DataW.Trod enc Tryz.prog W base (fun _ => true) held 49 v d ps) :
    ∃ (a : Option Addr) (L cap : Nat) (F : Nat → V) (x y z : Int), v = .agg #[.slice a L cap, .int .i64 x, .int .i64 y, .int .i64 z] ∧ L ≤ 9223372036854775807 ∧ Vin W a L F := by
  obtain ⟨cs, rfl, h2⟩ := okWide_struct Tryz.underlying49 hval
  rw [cells49] at h2
  obtain ⟨ll⟩ := cs
  obtain ⟨c0, c1, c2, c3, rfl⟩ : ∃ c0 c1 c2 c3, ll = [c0, c1, c2, c3] := by
    match ll, h2 with
    | [c0, c1, c2, c3], _ => exact ⟨c0, c1, c2, c3, rfl⟩
  obtain ⟨fuel, hf⟩ := hd
  obtain ⟨y0, y1, y2, y3, m, hx, _, t0, t1, t2, t3⟩ := Go.Joins.trod_struct4 Tryz.underlying49 hf
  obtain ⟨x, e1, f1, g1⟩ := DataW.trod_int Tryz.underlying3 t1
  obtain ⟨y, e2, f2, g2⟩ := DataW.trod_int Tryz.underlying3 t2
  obtain ⟨z, e3, f3, g3⟩ := DataW.trod_int Tryz.underlying3 t3
  simp [Value.cells, cells3] at e1 e2 e3
  subst e1 e2 e3
  rw [cells22] at t0
  obtain ⟨av, L, cv, F, e4, hL, hV⟩ := open_vals15 (c := c0) (by simpa [Value.cells] using t0)
  subst e4
  exact ⟨av, L, cv, F, x, y, z, rfl, hL, hV⟩
set_option maxRecDepth 100000 in
theorem open_valA {H : Type} {enc : TypeId × Value → H} {W : World} {base b0 : Nat} {held : Bool} {r : Reach} {v : Value} {d : DataW H} {ps : List MemPlace}
    (hval : Value.okWide Tryz.prog W r b0 24 v) (hd : DataW.Trod enc Tryz.prog W base (fun _ => true) held 24 v d ps) : ∃ x : V, v = vl x.1 x.2.1 x.2.2 := by
  obtain ⟨cs, rfl, h2⟩ := okWide_struct Tryz.underlying24 hval
  rw [cells24] at h2
  obtain ⟨fuel, hf⟩ := hd
  obtain ⟨ll⟩ := cs
  obtain ⟨k, n, s, e, _⟩ := elem_val (cs := ll) (by simpa using h2) (by simpa [Value.cells] using hf)
  subst e
  exact ⟨(k, n, s), rfl⟩
/-- A list of texts that came in. -/
structure Sin (w : World) (a : Option Addr) (L : Nat) (G : Nat → ByteArray) : Prop where
  at' : ∀ i, i < L → ∃ lb off, a = some ⟨lb, off, none⟩ ∧ lb < w.heap.size ∧ w.cell? ⟨lb, off + i, none⟩ = some (.string (G i))
theorem Sin.below {w w' : World} {a : Option Addr} {L : Nat} {G : Nat → ByteArray} (h : Sin w a L G) (k : Below w.heap.size w w') : Sin w' a L G := ⟨fun i hi => by
  obtain ⟨lb, off, e, hl, c0⟩ := h.at' i hi
  exact ⟨lb, off, e, Nat.lt_of_lt_of_le hl k.size, by rw [k.cell (by exact hl)]; exact c0⟩⟩
set_option maxRecDepth 100000 in
theorem open_strs15 {H : Type} {enc : TypeId × Value → H} {W : World} {base : Nat} {held : Bool} {fuel : Nat} {c : Value} {x : DataW H × List MemPlace} (t3 : DataW.trod enc Tryz.prog W base (fun _ => true) held fuel 42 [c] = some x) :
    ∃ (a : Option Addr) (L cap : Nat) (G : Nat → ByteArray), c = .slice a L cap ∧ L ≤ 9223372036854775807 ∧ Sin W a L G := by
  rcases open_slice Tryz.underlying42 t3 with ⟨h0, _⟩ | ⟨a, len, cap, m, n, D, Pl, h0, hb, hl, hm, hmm, hx, he⟩
  · simp at h0
    subst h0
    exact ⟨none, 0, 0, fun _ => ⟨#[]⟩, rfl, by omega, ⟨fun i hi => absurd hi (Nat.not_lt_zero _)⟩⟩
  · simp only [if_true] at hmm
    subst hmm
    simp at h0
    subst h0
    have each : ∀ i, i < m → ∃ q : ByteArray, W.cell? (a.add i) = some (.string q) := by
      intro i hi
      obtain ⟨cs', h1, h2⟩ := he i hi
      rw [cells9] at h1
      obtain ⟨_, hlen, hcell⟩ := World.cells?_some h1
      obtain ⟨c0, rfl⟩ : ∃ c0, cs' = [c0] := by
        match cs', hlen with
        | [c0], _ => exact ⟨c0, rfl⟩
      obtain ⟨q, e0, _⟩ := DataW.trod_string Tryz.underlying9 h2
      simp at e0
      subst e0
      have c0 := hcell 0 (by omega)
      rw [Addr.add_add, Nat.mul_one] at c0
      exact ⟨q, c0⟩
    obtain ⟨F, hF⟩ : ∃ F : Nat → ByteArray, ∀ i, i < m → W.cell? (a.add i) = some (.string (F i)) :=
      ⟨fun i => if h : i < m then (each i h).choose else ⟨#[]⟩, fun i hi => by
        simp only [dif_pos hi]
        exact (each i hi).choose_spec⟩
    refine ⟨some a, len, m, F, rfl, by unfold maxLen at hm; omega, ⟨fun i hi => ?_⟩⟩
    have hc0 := hF 0 (by omega)
    have ha : a.add 0 = a := rfl
    rw [ha] at hc0
    obtain ⟨b, off, spot⟩ := a
    have hs : spot = none := spot_none hc0
    subst hs
    have q0 := hF i (by omega)
    rw [add_none] at q0
    exact ⟨b, off, rfl, World.block_lt_of_cell? W _ hc0, q0⟩
set_option maxRecDepth 100000 in
theorem open_words {H : Type} {enc : TypeId × Value → H} {W : World} {base b0 : Nat} {held : Bool} {r : Reach} {v : Value} {d : DataW H} {ps : List MemPlace}
    (hval : Value.okWide Tryz.prog W r b0 44 v) (hd : DataW.Trod enc Tryz.prog W base (fun _ => true) held 44 v d ps) :
    ∃ (a : Option Addr) (L cap : Nat) (G : Nat → ByteArray) (s : ByteArray) (x y : Int), v = .agg #[.slice a L cap, .string s, .int .i64 x, .int .i64 y] ∧ L ≤ 9223372036854775807 ∧ Sin W a L G := by
  obtain ⟨cs, rfl, h2⟩ := okWide_struct Tryz.underlying44 hval
  rw [cells44] at h2
  obtain ⟨ll⟩ := cs
  obtain ⟨c0, c1, c2, c3, rfl⟩ : ∃ c0 c1 c2 c3, ll = [c0, c1, c2, c3] := by
    match ll, h2 with
    | [c0, c1, c2, c3], _ => exact ⟨c0, c1, c2, c3, rfl⟩
  obtain ⟨fuel, hf⟩ := hd
  obtain ⟨y0, y1, y2, y3, m, hx, _, t0, t1, t2, t3⟩ := Go.Joins.trod_struct4 Tryz.underlying44 hf
  obtain ⟨s, e1, f1, g1⟩ := DataW.trod_string Tryz.underlying9 t1
  obtain ⟨y, e2, f2, g2⟩ := DataW.trod_int Tryz.underlying3 t2
  obtain ⟨z, e3, f3, g3⟩ := DataW.trod_int Tryz.underlying3 t3
  simp [Value.cells, cells3, cells9] at e1 e2 e3
  subst e1 e2 e3
  rw [cells42] at t0
  obtain ⟨av, L, cv, F, e4, hL, hV⟩ := open_strs15 (c := c0) (by simpa [Value.cells] using t0)
  subst e4
  exact ⟨av, L, cv, F, s, y, z, rfl, hL, hV⟩
end Go.Proofs.YtckgoedlgecokaaGreatDoor

/- A table and two lists beside it: appends of one list to another. -/
namespace Go.Proofs.YtckgoedlgecokaaGreatDoor
open Go.RowKit
/-- A list's cells. -/
abbrev cellsL (l : List V) : List Value := cellsV (fun i => l.getD i nil) l.length
theorem cellsL_len (l : List V) : (cellsL l).length = l.length * 3 := cellsV_len _ _
theorem cellsL_app (a b : List V) : cellsL a ++ cellsL b = cellsL (a ++ b) := by
  refine List.ext_getElem? fun j => ?_
  by_cases h : j < a.length * 3
  · rw [List.getElem?_append_left (by rw [cellsL_len]; exact h), cellsV_at _ _ _ h, cellsV_at _ _ _ (by rw [List.length_append]; omega)]
    congr 2
    rw [List.getD_eq_getElem?_getD, List.getD_eq_getElem?_getD, List.getElem?_append_left (by omega)]
  · rw [List.getElem?_append_right (by rw [cellsL_len]; omega), cellsL_len]
    by_cases h2 : j < (a.length + b.length) * 3
    · rw [cellsV_at _ _ _ (by omega), cellsV_at _ _ _ (by rw [List.length_append]; exact h2), show (j - a.length * 3) / 3 = j / 3 - a.length by omega, show (j - a.length * 3) % 3 = j % 3 by omega]
      congr 2
      rw [List.getD_eq_getElem?_getD, List.getD_eq_getElem?_getD, List.getElem?_append_right (by omega)]
    · rw [List.getElem?_eq_none (by rw [cellsL_len]; omega), List.getElem?_eq_none (by rw [cellsL_len, List.length_append]; omega)]
/-- What is appended: the values ys, wherever they lie. -/
def Sv (w : World) (s : Value) (ys : List V) : Prop := (s = .slice none 0 0 ∧ ys = []) ∨ ∃ ad c, s = .slice (some ad) ys.length c ∧ ∀ j u, (cellsL ys)[j]? = some u → w.cell? (ad.add j) = some u
theorem lv_apps {w : World} {B : Nat} {v s : Value} {xs ys : List V} (h : Lv w B v xs.length fun i => xs.getD i nil) (hs : Sv w s ys) (hn : xs.length + ys.length ≤ 1000) (hB : B ≤ w.heap.size) :
    ∃ a q w', (Builtin.append_ #[22, 22] 22 #[v, s]).run Tryz.prog w = .ok (.slice a (xs.length + ys.length) q) w' ∧ Lv w' B (.slice a (xs.length + ys.length) q) (xs ++ ys).length (fun i => (xs ++ ys).getD i nil) ∧ w.grownBy w' v.ownBlock ∧ ((Value.slice a (xs.length + ys.length) q).ownBlock = v.ownBlock ∨ (Value.slice a (xs.length + ys.length) q).ownBlock = some w.heap.size) := by
  obtain ⟨i0, hi, hz0, hz1, hz2⟩ := info_parts info32
  rcases hs with ⟨rfl, rfl⟩ | ⟨ad, c, rfl, hc⟩
  · obtain ⟨a, q, rfl⟩ := h.form
    have hr := run_append_owned_none (P := Tryz.prog) w B 22 22 24 i0 3 Tryz.underlying22 hi (.slice a xs.length q) xs.length _ h.own
    refine ⟨a, q, w, hr, ⟨by rw [List.append_nil]; exact h.own⟩, ⟨rfl, rfl, rfl, Nat.le_refl _, fun _ _ _ => rfl⟩, .inl rfl⟩
  · obtain ⟨v', w', hr, h2, h3, _, h5⟩ := run_append_own_at (P := Tryz.prog) w B 22 22 24 i0 (vl 0 0 ⟨#[]⟩) 3 32 Tryz.underlying22 hi hz0 hz1 hz2 rfl (by omega) v xs.length _ h.own ad ys.length c (cellsL ys) (cellsL_len ys) hc (cellsV_one _ _) (by simp only [maxLen]; omega) (by omega) hB
    obtain ⟨a, q, rfl⟩ := slice_shape h2
    refine ⟨a, q, w', hr, ⟨?_⟩, h3, h5⟩
    have e : cellsV (fun i => xs.getD i nil) xs.length ++ cellsL ys = cellsL (xs ++ ys) := cellsL_app xs ys
    rw [e] at h2
    rw [List.length_append]
    show World.ownsRow _ _ _ _ _ _ (cellsV (fun i => (xs ++ ys).getD i nil) (xs.length + ys.length))
    have e2 : cellsL (xs ++ ys) = cellsV (fun i => (xs ++ ys).getD i nil) (xs.length + ys.length) := by unfold cellsL; rw [List.length_append]
    rw [← e2]
    exact h2
/-- A table that holds the row l, the list v of the values m, and the list u of the values n, in a block of its own. -/
structure RK (w : World) (B T S hb c K : Nat) (l : List V) (v : Value) (m : List V) (u : Value) (n : List V) (wx : World) : Prop where
  tw : ∃ No : Nat → Prop, Tw No wx T S hb c 1 K (rowf l) ∧ (∀ g, g < w.heap.size → No g) ∧ (∀ q, v.ownBlock = some q → No q) ∧ ∀ q, u.ownBlock = some q → No q
  lv : Lv wx w.heap.size v m.length fun i => m.getD i nil
  lu : Lv wx B u n.length fun i => n.getD i nil
  sp : ∀ q, v.ownBlock = some q → q < B
  le : w.heap.size ≤ B ∧ B ≤ wx.heap.size
  bl : Below w.heap.size w wx
section
variable {w wx wy : World} {B T S hb c K : Nat} {l m n : List V} {v u : Value}
theorem RK.of (h : RJ w T S hb c K l v m wx) (hB : B = wx.heap.size) : RK w B T S hb c K l v m (.slice none 0 0) [] wx := by
  obtain ⟨No, h1, h2, h3⟩ := h.tw
  subst hB
  exact ⟨⟨No, h1, h2, h3, fun q e => by cases e⟩, h.lv, Lv.nil _ _ _, fun q e => (h.lv.own.lt q e).2, ⟨h.bl.size, Nat.le_refl _⟩, h.bl⟩
theorem RK.below (h : RK w B T S hb c K l v m u n wx) (k : Below wx.heap.size wx wy) : RK w B T S hb c K l v m u n wy := by
  obtain ⟨No, h1, h2, h3, h4⟩ := h.tw
  exact ⟨⟨No, h1.below k, h2, h3, h4⟩, h.lv.below k, h.lu.below k, h.sp, ⟨h.le.1, Nat.le_trans h.le.2 k.size⟩, h.bl.trans (k.mono h.bl.size)⟩
theorem RK.drew (h : RK w B T S hb c K l v m u n wx) : RK w B T S hb c K l v m u n wx.drew := h.below (Below.refl _ _).drew
theorem RK.more {c2 : Nat} (h : RK w B T S hb c K l v m u n wx) (hc : c ≤ c2) : RK w B T S hb c2 K l v m u n wx := by
  obtain ⟨No, h1, h2, h3, h4⟩ := h.tw
  exact ⟨⟨No, h1.more hc, h2, h3, h4⟩, h.lv, h.lu, h.sp, h.le, h.bl⟩
theorem RK.run (h : RK w B T S hb c K l v m u n wx) {fn : Nat} {args : Array Value} {r : Ending} {c2 : Nat} {l2 : List V} (C : ∀ No : Nat → Prop, (∀ q, v.ownBlock = some q → No q) → (∀ q, u.ownBlock = some q → No q) → Tw No wx T S hb c 1 K (rowf l) → Calls Tryz.prog fn args wx fun e w' => e = r ∧ Tw No w' T S hb c2 1 K (rowf l2) ∧ Keep No wx w') :
    Calls Tryz.prog fn args wx fun e w' => e = r ∧ RK w B T S hb c2 K l2 v m u n w' := by
  obtain ⟨No, h1, h2, h3, h4⟩ := h.tw
  exact (C No h3 h4 h1).mono fun e w' ⟨he, t, k⟩ => ⟨he, ⟨No, t, h2, h3, h4⟩, h.lv.keep k h3, h.lu.keep k h4, h.sp, ⟨h.le.1, Nat.le_trans h.le.2 k.size⟩, h.bl.trans (k.below h.bl.size h2)⟩
/-- The list u has grown. -/
theorem RK.grow {u' : Value} {n' : List V} (h : RK w B T S hb c K l v m u n wx) (g : wx.grownBy wy u.ownBlock) (hl : Lv wy B u' n'.length fun i => n'.getD i nil) (at' : u'.ownBlock = u.ownBlock ∨ u'.ownBlock = some wx.heap.size) : RK w B T S hb c K l v m u' n' wy := by
  obtain ⟨No, h1, h2, h3, h4⟩ := h.tw
  have hle := h.le
  refine ⟨⟨_, h1.frame g h4, fun y hy => .inl (h2 y hy), fun y hy => .inl (h3 y hy), fun y hy => ?_⟩, h.lv.grown g ?_, hl, h.sp, ⟨h.le.1, Nat.le_trans h.le.2 g.size⟩, h.bl.trans ⟨g.os, g.tape, g.output, g.size, fun y hy => g.block y (by omega) (fun e => ?_)⟩⟩
  · rcases at' with e | e
    · exact .inl (h4 y (e ▸ hy))
    · rw [e] at hy
      injection hy with hy
      exact .inr ⟨by omega, (hl.own.lt y (by rw [e, hy])).2⟩
  · cases hv : v.ownBlock with
    | none => exact .inl rfl
    | some q => exact .inr fun e => by have := h.sp q hv; have := (h.lu.own.lt q e.symm).1; omega
  · have := (h.lu.own.lt y e.symm).1
    omega
theorem RK.apps (h : RK w B T S hb c K l v m u n wx) {s : Value} {ys : List V} (hs : Sv wx s ys) (hn : n.length + ys.length ≤ 1000) :
    ∃ a q w', (Builtin.append_ #[22, 22] 22 #[u, s]).run Tryz.prog wx = .ok (.slice a (n.length + ys.length) q) w' ∧ RK w B T S hb c K l v m (.slice a (n.length + ys.length) q) (n ++ ys) w' := by
  obtain ⟨a, q, w', hr, hl, hg, at'⟩ := lv_apps h.lu hs hn h.le.2
  exact ⟨a, q, w', hr, h.grow hg hl at'⟩
/-- One value more, out of a box that was made for it. -/
theorem sv_box {W : World} {b : Nat} {x : V} (h : Bx W b x) : Sv W (.slice (some ⟨b, 0, none⟩) 1 1) [x] := .inr ⟨⟨b, 0, none⟩, 1, rfl, fun j u hu => by
  have hadd : (⟨b, 0, none⟩ : Addr).add j = ⟨b, j, none⟩ := by unfold Addr.add; split <;> simp_all
  rw [hadd]
  have hj : j < 3 := by have := (List.getElem?_eq_some_iff.1 hu).1; rw [cellsL_len] at this; simpa using this
  rw [cellsV_at _ _ _ (by simpa using hj)] at hu
  rcases lt3 hj with rfl | rfl | rfl
  · simp [vc] at hu; rw [← hu]; exact h.c0
  · simp [vc] at hu; rw [← hu]; exact h.c1
  · simp [vc] at hu; rw [← hu]; exact h.c2⟩
theorem RK.set {a : Option Addr} {k q : Nat} (h : RK w B T S hb c K l v m (.slice a k q) n wx) {i : Nat} (hi : i < n.length) (x : V) :
    ∃ g, a = some ⟨g, 0, none⟩ ∧ (∀ j, wx.frozen? ⟨g, j, none⟩ = false) ∧ (∃ y : V, wx.cell? ⟨g, i * 3, none⟩ = some (.int .i64 y.1) ∧ wx.cell? ⟨g, i * 3 + 1, none⟩ = some (.int .i64 y.2.1) ∧ wx.cell? ⟨g, i * 3 + 2, none⟩ = some (.string y.2.2)) ∧
      RK w B T S hb c K l v m (.slice a k q) (n.set i x) (((wx.setCell ⟨g, i * 3, none⟩ (.int .i64 x.1)).setCell ⟨g, i * 3 + 1, none⟩ (.int .i64 x.2.1)).setCell ⟨g, i * 3 + 2, none⟩ (.string x.2.2)) := by
  obtain ⟨g, cc, eq, hBg, lq, fz, u0, u1, u2⟩ := h.lu.at hi
  injection eq with e1 e2 e3
  subst e1 e2 e3
  refine ⟨g, rfl, fz, ⟨_, u0, u1, u2⟩, ?_⟩
  obtain ⟨No, h1, h2, h3, h4⟩ := h.tw
  have hN : No g := h4 g rfl
  have k3 : Keep (fun y => y ≠ g) wx (((wx.setCell ⟨g, i * 3, none⟩ (.int .i64 x.1)).setCell ⟨g, i * 3 + 1, none⟩ (.int .i64 x.2.1)).setCell ⟨g, i * 3 + 2, none⟩ (.string x.2.2)) := (((Keep.refl _ wx).set (p := ⟨g, i * 3, none⟩) (fun z => z rfl) _).set (p := ⟨g, i * 3 + 1, none⟩) (fun z => z rfl) _).set (p := ⟨g, i * 3 + 2, none⟩) (fun z => z rfl) _
  have hle := h.le
  have hs := h.lu.set hi x
  refine ⟨⟨No, h1.at3 hN (i * 3) x, h2, h3, h4⟩, h.lv.keep k3 (fun y e => by have := h.sp y e; omega), ⟨?_⟩, h.sp, ⟨h.le.1, Nat.le_trans h.le.2 k3.size⟩, h.bl.trans (k3.below h.bl.size fun y hy => by omega)⟩
  rw [List.length_set]
  have e : cellsV (upd (fun i => n.getD i nil) i x) n.length = cellsV (fun j => (n.set i x).getD j nil) n.length := cellsV_congr fun j hj => by
    unfold upd
    by_cases q : j = i
    · subst q; rw [if_pos rfl]; simp [List.getD_eq_getElem?_getD, hi]
    · rw [if_neg q]; show n.getD j nil = _; rw [List.getD_eq_getElem?_getD, List.getD_eq_getElem?_getD, List.getElem?_set_ne (by omega)]
  rw [← e]
  exact hs.own
theorem RK.at {a : Option Addr} {k q : Nat} (h : RK w B T S hb c K l (.slice a k q) m u n wx) {i : Nat} (hi : i < m.length) : ∃ g, a = some ⟨g, 0, none⟩ ∧ g < wx.heap.size ∧ wx.cell? ⟨g, i * 3, none⟩ = some (.int .i64 (m.getD i nil).1) ∧ wx.cell? ⟨g, i * 3 + 1, none⟩ = some (.int .i64 (m.getD i nil).2.1) ∧ wx.cell? ⟨g, i * 3 + 2, none⟩ = some (.string (m.getD i nil).2.2) := by
  obtain ⟨g, cc, eq, _, lq, _, u0, u1, u2⟩ := h.lv.at hi
  injection eq with eq1 eq2 eq3
  exact ⟨g, eq1, lq, u0, u1, u2⟩
/-- The whole of the list v, as what is appended. -/
theorem RK.src (h : RK w B T S hb c K l v m u n wx) : Sv wx v m := by
  rcases h.lv.own.2 with ⟨e, h0⟩ | ⟨g, cap, cur, rfl, _, hg, hn, _⟩
  · exact .inl ⟨e, List.eq_nil_of_length_eq_zero h0⟩
  · exact .inr ⟨⟨g, 0, none⟩, cap, rfl, h.lv.own.cells (g := g) rfl⟩
end
end Go.Proofs.YtckgoedlgecokaaGreatDoor
