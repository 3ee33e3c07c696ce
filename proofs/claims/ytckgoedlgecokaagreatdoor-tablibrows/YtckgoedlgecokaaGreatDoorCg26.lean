/- A table and a list beside it; the walk of TablibStack. -/
import Derived.Test.YtckgoedlgecokaaGreatDoorCg25
import Derived.WalkSmall
namespace Go.Proofs.YtckgoedlgecokaaGreatDoor
open Go.RowKit
/-- A table that holds the row l, and the list v of the values m. -/
structure RJ (w : World) (T S hb c K : Nat) (l : List V) (v : Value) (m : List V) (wx : World) : Prop where
  tw : ∃ No : Nat → Prop, Tw No wx T S hb c 1 K (rowf l) ∧ (∀ g, g < w.heap.size → No g) ∧ ∀ q, v.ownBlock = some q → No q
  lv : Lv wx w.heap.size v m.length fun i => m.getD i nil
  bl : Below w.heap.size w wx
theorem own_le {w : World} {base base' : Nat} {e : TypeId} {size : Nat} {v : Value} {n : Nat} {xs : List Value} (h : w.ownsRow base e size v n xs) (hb : base' ≤ base) : w.ownsRow base' e size v n xs := by
  refine ⟨h.1, ?_⟩
  rcases h.2 with q | ⟨g, cap, cur, e, h2, h3⟩
  · exact .inl q
  · exact .inr ⟨g, cap, cur, e, Nat.le_trans hb h2, h3⟩
theorem RJ.of {w w1 wx : World} {T S hb K : Nat} {l : List V} {v : Value} (h : RI w1 T S hb K v l wx) (b : Below w.heap.size w w1) : RJ w T S hb (10 + 137 * l.length) K l v l wx := by
  obtain ⟨No, h1, h2, h3⟩ := h.tw
  have hs := b.size
  exact ⟨⟨No, h1, fun g q => h2 g (by omega), h3⟩, ⟨own_le h.lv.own hs⟩, b.trans (h.bl.mono hs)⟩
section
variable {w wx wy : World} {T S hb c K : Nat} {l m : List V} {v : Value}
theorem RJ.below (h : RJ w T S hb c K l v m wx) (k : Below wx.heap.size wx wy) : RJ w T S hb c K l v m wy := by
  obtain ⟨No, h1, h2, h3⟩ := h.tw
  exact ⟨⟨No, h1.below k, h2, h3⟩, h.lv.below k, h.bl.trans (k.mono h.bl.size)⟩
theorem RJ.drew (h : RJ w T S hb c K l v m wx) : RJ w T S hb c K l v m wx.drew := h.below (Below.refl _ _).drew
theorem RJ.more {c2 : Nat} (h : RJ w T S hb c K l v m wx) (hc : c ≤ c2) : RJ w T S hb c2 K l v m wx := by
  obtain ⟨No, h1, h2, h3⟩ := h.tw
  exact ⟨⟨No, h1.more hc, h2, h3⟩, h.lv, h.bl⟩
theorem RJ.run (h : RJ w T S hb c K l v m wx) {n : Nat} {args : Array Value} {r : Ending} {c2 : Nat} {l2 : List V} (C : ∀ No : Nat → Prop, (∀ q, v.ownBlock = some q → No q) → Tw No wx T S hb c 1 K (rowf l) → Calls Tryz.prog n args wx fun e w' => e = r ∧ Tw No w' T S hb c2 1 K (rowf l2) ∧ Keep No wx w') :
    Calls Tryz.prog n args wx fun e w' => e = r ∧ RJ w T S hb c2 K l2 v m w' := by
  obtain ⟨No, h1, h2, h3⟩ := h.tw
  exact (C No h3 h1).mono fun e w' ⟨he, t, k⟩ => ⟨he, ⟨No, t, h2, h3⟩, h.lv.keep k h3, h.bl.trans (k.below h.bl.size h2)⟩
theorem RJ.app (h : RJ w T S hb c K l v m wx) (x : V) (hm : m.length ≤ 300) :
    ∃ a q w', (Builtin.append_ #[22, 22] 22 #[v, .slice (some ⟨wx.heap.size, 0, none⟩) 1 1]).run Tryz.prog (wx.alloc (.cells #[.int .i64 x.1, .int .i64 x.2.1, .string x.2.2] 24)) = .ok (.slice a (m.length + 1) q) w' ∧ RJ w T S hb c K l (.slice a (m.length + 1) q) (m ++ [x]) w' := by
  have b5 := b1 wx (.cells #[.int .i64 x.1, .int .i64 x.2.1, .string x.2.2] 24)
  have X5 : Bx (wx.alloc (.cells #[.int .i64 x.1, .int .i64 x.2.1, .string x.2.2] 24)) wx.heap.size x := Bx.made wx x
  have h5 := h.below b5
  have hz5 := h5.bl.size
  obtain ⟨g, q, w6, hr, l6, g6, at6, lt6⟩ := h5.lv.app x X5 (by omega) hz5
  obtain ⟨No, t1, t2, t3⟩ := h5.tw
  have f6 := t1.frame g6 t3
  rw [getD_snoc] at l6
  refine ⟨some ⟨g, 0, none⟩, q, w6, hr, ⟨_, f6, fun y hy => .inl (t2 y hy), fun y ey => ?_⟩, ⟨by rw [List.length_append]; exact l6.own⟩, h5.bl.trans ⟨g6.os, g6.tape, g6.output, g6.size, fun y hy => g6.block y (by omega) (fun e => ?_)⟩⟩
  · injection ey with ey
    subst ey
    rcases at6 with e | e
    · exact .inl (t3 g e)
    · exact .inr ⟨Nat.le_of_eq e.symm, lt6⟩
  · have := (h5.lv.own.lt y e.symm).1
    omega
theorem RJ.form (h : RJ w T S hb c K l v m wx) : ∃ a q, v = .slice a m.length q := h.lv.form
theorem RJ.cap {a : Option Addr} {n q : Nat} (h : RJ w T S hb c K l (.slice a n q) m wx) : m.length ≤ q := by
  rcases h.lv.own.2 with ⟨e, h0⟩ | ⟨g, cap, cur, e, _, _, hn, _⟩
  · omega
  · injection e with _ _ e3; omega
theorem RJ.at {a : Option Addr} {n q : Nat} (h : RJ w T S hb c K l (.slice a n q) m wx) {i : Nat} (hi : i < m.length) : ∃ g, a = some ⟨g, 0, none⟩ ∧ g < wx.heap.size ∧ wx.cell? ⟨g, i * 3, none⟩ = some (.int .i64 (m.getD i nil).1) ∧ wx.cell? ⟨g, i * 3 + 1, none⟩ = some (.int .i64 (m.getD i nil).2.1) ∧ wx.cell? ⟨g, i * 3 + 2, none⟩ = some (.string (m.getD i nil).2.2) := by
  obtain ⟨g, cc, eq, _, lq, _, u0, u1, u2⟩ := h.lv.at hi
  injection eq with eq1 eq2 eq3
  exact ⟨g, eq1, lq, u0, u1, u2⟩
theorem RJ.pop {a : Option Addr} {n q : Nat} {x : V} (h : RJ w T S hb c K l (.slice a n q) (m ++ [x]) wx) : RJ w T S hb c K l (.slice a m.length q) m wx := by
  obtain ⟨No, h1, h2, h3⟩ := h.tw
  have hl := h.lv
  obtain ⟨g, e, lt⟩ : ∃ g, a = some ⟨g, 0, none⟩ ∧ n = m.length + 1 := by
    obtain ⟨g, cc, eq, _⟩ := hl.at (i := 0) (by rw [List.length_append]; simp only [List.length_singleton]; omega)
    injection eq with e1 e2 e3
    exact ⟨g, e1, by rw [e2, List.length_append]; rfl⟩
  subst e lt
  refine ⟨⟨No, h1, h2, h3⟩, ⟨?_⟩, h.bl⟩
  have ho := hl.own
  rw [List.length_append, List.length_singleton, ← getD_snoc, ← cellsV_snoc] at ho
  exact ownsRow_pop (by rw [cellsV_len]) ho
end
/-- A list of truths that came in. -/
structure Bin (w : World) (a : Option Addr) (L : Nat) (An : Nat → Bool) : Prop where
  at' : ∀ i, i < L → ∃ lb off, a = some ⟨lb, off, none⟩ ∧ lb < w.heap.size ∧ w.cell? ⟨lb, off + i, none⟩ = some (.bool (An i))
set_option maxRecDepth 20000 in
set_option maxHeartbeats 8000000 in
theorem stack_walk {w : World} {av ap : Option Addr} {cv cp L P : Nat} {F : Nat → V} {An : Nat → Bool} (hv : Vin w av L F) (hp : Bin w ap P An) (_ : L ≤ 9223372036854775807) (_ : P ≤ 9223372036854775807) :
    Calls Tryz.prog 7 #[.slice av L cv, .slice ap P cp] w fun e w' => e = .returned (.bool true) ∧ Below w.heap.size w w' := by
  have CF := fixed_any w
  have HV : Hid (Vin w av L F ∧ Bin w ap P An) := ⟨hv, hp⟩
  clear hv hp
  go_enter Tryz.func7, Tryz.ntmps7
  go_wp2_with fail
  refine CF.mono ?_
  rintro e w1 ⟨rfl, b1⟩
  have C1 := row_walk (cap := 0) (Vin.none w1 F) (by omega)
  have HB1 : Hid (Below w.heap.size w w1) := b1
  clear CF b1
  go_wp2_with fail
  refine C1.mono ?_
  rintro e w2 ⟨T, v, rfl, R1⟩
  have RR := RJ.of R1 HB1.out
  obtain ⟨a0, c0, rfl⟩ := RR.form
  have HI : Hid (RJ w T (w1.heap.size + 1) w1.heap.size (20 + 1000 * 0) 200 [] (.slice a0 0 c0) [] w2) := RR.more (by show 10 + 137 * 0 ≤ _; omega)
  clear C1 R1 RR HB1
  have e0 : (rwq F 0).length = 0 := rfl
  rw [e0]
  clear e0
  go_wp2
  go_loopw [6, 8] (fun sv iv wx => ∃ k n : Nat, ∃ l : List V, ∃ a q, iv = .int .i64 (k : Nat) ∧ sv = .slice a n q ∧ k ≤ 100 ∧ n ≤ k ∧ Hid (l.length = n ∧ Gl l ∧ RJ w T (w1.heap.size + 1) w1.heap.size (20 + 1000 * k) 200 l (.slice a n q) l wx)) (fun _ iv _ => 100 - (intOf iv).toNat)
  case atStart => exact ⟨0, 0, [], a0, c0, rfl, rfl, by omega, Nat.le_refl _, rfl, (fun x hx => by cases hx), HI.out⟩
  case round =>
    clear HI
    obtain ⟨k, n, l, a, q, rfl, rfl, hk, hlk, HI⟩ := hrel
    by_cases hlt : k < L ∧ k < P ∧ k < 100
    · obtain ⟨k1, k2, k3⟩ := hlt
      have q1 : (k : Int) < (L : Int) := by omega
      have q2 : (k : Int) < (P : Int) := by omega
      have q3 : (k : Int) < 100 := by omega
      have wk : IntKind.i64.wrap ((k : Int) + 1) = (k : Int) + 1 := by rw [IntKind.wrap_i64]; omega
      have hms : 100 - (k + 1) < 100 - k := by omega
      obtain ⟨pb, po, rfl, pl, pc⟩ := HV.out.2.at' k k2
      have pr := (HI.out.2.2.bl.cell (p := ⟨pb, po + k, none⟩) pl).trans pc
      clear pl pc
      cases hA : An k with
      | true =>
        rw [hA] at pr
        clear hA
        by_cases hn0 : n = 0
        · subst hn0
          have hl0 : l = [] := List.eq_nil_of_length_eq_zero HI.out.1
          subst hl0
          have C2 : Calls Tryz.prog 21 #[tp T] wr fun e w' => e = .returned (.int .i64 0) ∧ RJ w T (w1.heap.size + 1) w1.heap.size (20 + 1000 * k + 130) 200 [] (.slice a 0 q) [] w' := HI.out.2.2.run fun No hn t => last_row t HI.out.2.1 (by omega) (by simp)
          go_wp2_with fail
          refine C2.mono ?_
          rintro e w3 ⟨rfl, r3⟩
          have C3 := r3.run fun No hn t => remove_none t (by omega) 0 (by omega)
          clear C2 r3
          go_wp2_with fail
          refine C3.mono ?_
          rintro e w4 ⟨rfl, r4⟩
          have HN : Hid (∀ o, RJ w T (w1.heap.size + 1) w1.heap.size (20 + 1000 * (k + 1)) 200 [] (.slice a 0 q) [] (w4.alloc o)) := fun o => (r4.below (b1 w4 o)).more (by omega)
          have x0 := (Bx.made w4 nil).c0
          clear C3 r4 HI pr
          unfold vv nil vl
          unfold nil at x0
          go_wp2
          go_roundw
          case rel => exact ⟨k + 1, 0, [], a, q, by go_num, rfl, by omega, by omega, rfl, (fun x hx => by cases hx), HN.out _⟩
          case measure => first | omega | (simp only [intOf]; omega) | (simp; omega)
        · obtain ⟨n', rfl⟩ : ∃ n', n = n' + 1 := ⟨n - 1, by omega⟩
          obtain ⟨l', x, rfl⟩ : ∃ l' x, l = l' ++ [x] := by
            rcases List.eq_nil_or_concat l with e | ⟨l', x, e⟩
            · have := HI.out.1; rw [e] at this; simp at this
            · exact ⟨l', x, by simpa using e⟩
          have hl' : l'.length = n' := by have := HI.out.1; simpa using this
          have er : rowf (l' ++ [x]) ((n' : Int) + 1) = x := by
            rw [rowf_in (by omega) (by rw [HI.out.1]; omega), show ((n' : Int) + 1 - 1).toNat = l'.length by omega]; simp [List.getD_eq_getElem?_getD]
          have el : ((l' ++ [x]).length : Int) - 1 - (n' : Int) = 0 := by rw [HI.out.1]; omega
          have ee : (l' ++ [x]).eraseIdx n' = l' := by rw [← hl', List.eraseIdx_append_of_length_le (Nat.le_refl _)]; simp
          have ec : (((l' ++ [x]).length : Nat) : Int) = (n' : Int) + 1 := by rw [HI.out.1]; omega
          have C2 := HI.out.2.2.run fun No hn t => last_row t HI.out.2.1 (by omega) (by rw [HI.out.1]; omega)
          rw [ec] at C2
          go_wp2_with fail
          refine C2.mono ?_
          rintro e w3 ⟨rfl, r3⟩
          have C3 := r3.run fun No hn t => remove_ok t HI.out.2.1 (by omega) (by rw [HI.out.1]; omega) (by omega) n' (by rw [HI.out.1]; omega) 0 (by omega) (by omega)
          rw [er, el, ee, HI.out.1] at C3
          clear C2 r3
          go_wp2_with fail
          refine C3.mono ?_
          rintro e w4 ⟨rfl, r4⟩
          have HGl : Hid (Gl l' ∧ l'.length = n') := ⟨fun y hy => HI.out.2.1 y (List.mem_append_left _ hy), hl'⟩
          have bx := Bx.made w4 x
          have x0 := bx.c0
          have x1 := bx.c1
          have x2 := bx.c2
          have r5 := (r4.below (b1 w4 (vb x.1 x.2.1 x.2.2)))
          have hcap := r5.cap
          rw [HI.out.1] at hcap
          obtain ⟨g, rfl, lg, u0, u1, u2⟩ := r5.drew.at (i := n') (by rw [HI.out.1]; omega)
          have eg : (l' ++ [x]).getD n' nil = x := by rw [← hl']; simp [List.getD_eq_getElem?_getD]
          rw [eg] at u0 u1 u2
          have HR5 : Hid (RJ w T (w1.heap.size + 1) w1.heap.size (20 + 1000 * k + 130 + (200 + 8 * (n' + 1 - n'))) 200 l' (.slice (some ⟨g, 0, none⟩) n' q) l' (w4.alloc (vb x.1 x.2.1 x.2.2)).drew) := by
            have := r5.drew.pop
            rw [hl'] at this
            exact this.more (by omega)
          have wn : IntKind.i64.wrap ((n' : Int) + 1 - 1) = (n' : Int) := by rw [IntKind.wrap_i64]; omega
          have nx := neqV x
          clear C3 r4 r5 HI pr bx er el ee ec eg hl' lg
          unfold vv vl
          unfold vb at x0 x1 x2 u0 u1 u2 HR5
          go_wp2_with fail
          go_region
          have C5 := HR5.out.run fun No hn t => is_row (l := l') t HGl.out.1 (by omega) (by rw [HGl.out.2]; omega) w.heap.size (some ⟨g, 0, none⟩) q (by rw [HGl.out.2]; have := HR5.out.lv; rw [HGl.out.2] at this; exact this) (fun y e => hn y (by rw [HGl.out.2] at e; exact e))
          rw [HGl.out.2] at C5
          clear x0 x1 x2 u0 u1 u2 nx HR5
          go_wp2_with fail
          refine C5.mono ?_
          rintro e w6 ⟨rfl, r6⟩
          have HN : Hid (l'.length = n' ∧ Gl l' ∧ RJ w T (w1.heap.size + 1) w1.heap.size (20 + 1000 * (k + 1)) 200 l' (.slice (some ⟨g, 0, none⟩) n' q) l' w6) := ⟨HGl.out.2, HGl.out.1, r6.more (by omega)⟩
          clear C5 r6
          go_wp2
          go_roundw
          case rel => exact ⟨k + 1, n', l', some ⟨g, 0, none⟩, q, by go_num, rfl, by omega, by omega, HN⟩
          case measure => first | omega | (simp only [intOf]; omega) | (simp; omega)
      | false =>
        rw [hA] at pr
        clear hA
        obtain ⟨vb0, vo, rfl, vl0, v0, v1, v2⟩ := HV.out.1.at' k k1
        obtain ⟨x, hx⟩ : ∃ x, F k = x := ⟨_, rfl⟩
        rw [hx] at v0 v1 v2
        have HU : Hid (∀ W, Below w.heap.size w W → W.cell? ⟨vb0, vo + k * 3, none⟩ = some (.int .i64 x.1) ∧ W.cell? ⟨vb0, vo + k * 3 + 1, none⟩ = some (.int .i64 x.2.1) ∧ W.cell? ⟨vb0, vo + k * 3 + 2, none⟩ = some (.string x.2.2)) := fun W b => ⟨(b.cell (p := ⟨vb0, vo + k * 3, none⟩) vl0).trans v0, (b.cell (p := ⟨vb0, vo + k * 3 + 1, none⟩) vl0).trans v1, (b.cell (p := ⟨vb0, vo + k * 3 + 2, none⟩) vl0).trans v2⟩
        clear hx vl0 v0 v1 v2
        have m0 := (HU.out _ HI.out.2.2.bl).1
        have m1 := (HU.out _ HI.out.2.2.bl).2.1
        have m2 := (HU.out _ HI.out.2.2.bl).2.2
        have HI1 : Hid (RJ w T (w1.heap.size + 1) w1.heap.size (20 + 1000 * k) 200 l (.slice a n q) l (wr.alloc (vb x.1 x.2.1 x.2.2))) := HI.out.2.2.below (b1 _ _)
        have n0 := (HU.out _ HI1.out.bl).1
        have n1 := (HU.out _ HI1.out.bl).2.1
        have n2 := (HU.out _ HI1.out.bl).2.2
        have HG : Hid (l.length = n ∧ Gl l) := ⟨HI.out.1, HI.out.2.1⟩
        have C := rcheck_any x.1 x.2.1 x.2.2 wr
        clear HI
        by_cases hf : fm x = true
        · have hch : chk x.1 x.2.1 x.2.2 = 0 := (chk_fm x).2 hf
          rw [hch] at C
          by_cases h0 : x.1 = 0
          · have h0' : (x.1 != 0) = false := by simpa using h0
            clear h0 hch hf HU
            unfold vl at C
            unfold vb at C n0 n1 n2 HI1
            have C5 := HI1.out.run fun No hn t => is_row (l := l) t HG.out.2 (by omega) (by rw [HG.out.1]; omega) w.heap.size a q (by rw [HG.out.1]; have := HI1.out.lv; rw [HG.out.1] at this; exact this) (fun y e => hn y (by rw [HG.out.1] at e; exact e))
            rw [HG.out.1] at C5
            go_wp2_with fail
            refine C.mono ?_
            rintro e w3 ⟨rfl, rfl⟩
            clear C
            go_wp2_with fail
            refine C5.mono ?_
            rintro e w6 ⟨rfl, r6⟩
            have HN : Hid (l.length = n ∧ Gl l ∧ RJ w T (w1.heap.size + 1) w1.heap.size (20 + 1000 * (k + 1)) 200 l (.slice a n q) l w6) := ⟨HG.out.1, HG.out.2, r6.more (by omega)⟩
            clear C5 r6 HI1 n0 n1 n2 m0 m1 m2 pr
            go_wp2
            go_roundw
            case rel => exact ⟨k + 1, n, l, a, q, by go_num, rfl, by omega, by omega, HN⟩
            case measure => first | omega | (simp only [intOf]; omega) | (simp; omega)
          · have h0' : (x.1 != 0) = true := by simpa using h0
            unfold vl at C
            unfold vb at C n0 n1 n2 HI1
            have C2 := HI1.out.run fun No hn t => append_row t HG.out.2 (by omega) (by rw [HG.out.1]; omega) (by omega) x ⟨hf, h0⟩
            clear hch
            go_wp2_with fail
            refine C.mono ?_
            rintro e w3 ⟨rfl, rfl⟩
            clear C
            go_wp2_with fail
            refine C2.mono ?_
            rintro e w4 ⟨rfl, r4⟩
            have e0 := (HU.out _ r4.bl).1
            have e1 := (HU.out _ r4.bl).2.1
            have e2 := (HU.out _ r4.bl).2.2
            obtain ⟨a5, q5, w5, hr5, r5⟩ := r4.app x (by rw [HG.out.1]; omega)
            rw [HG.out.1] at hr5 r5
            have HG5 : Hid (Gl (l ++ [x]) ∧ (l ++ [x]).length = n + 1) := ⟨fun y hy => by
              rcases List.mem_append.1 hy with z | z
              · exact HG.out.2 y z
              · rw [List.mem_singleton.1 z]; exact ⟨hf, h0⟩, by rw [List.length_append, HG.out.1]; rfl⟩
            have HR5 : Hid (RJ w T (w1.heap.size + 1) w1.heap.size (20 + 1000 * k + 137) 200 (l ++ [x]) (.slice a5 (n + 1) q5) (l ++ [x]) w5) := r5
            have C5 := HR5.out.run fun No hn t => is_row (l := l ++ [x]) t HG5.out.1 (by omega) (by rw [HG5.out.2]; omega) w.heap.size a5 q5 (by rw [HG5.out.2]; have := HR5.out.lv; rw [HG5.out.2] at this; exact this) (fun y e => hn y (by rw [HG5.out.2] at e; exact e))
            rw [HG5.out.2] at C5
            clear C2 r4 r5 HR5 HI1 n0 n1 n2 m0 m1 m2 HU pr h0' h0 hf
            go_wp2_with (at_builtin; refine wp_app rfl _ _ 22 rfl 22 rfl _ _ rfl rfl hr5 ?_)
            refine C5.mono ?_
            rintro e w6 ⟨rfl, r6⟩
            have HN : Hid ((l ++ [x]).length = n + 1 ∧ Gl (l ++ [x]) ∧ RJ w T (w1.heap.size + 1) w1.heap.size (20 + 1000 * (k + 1)) 200 (l ++ [x]) (.slice a5 (n + 1) q5) (l ++ [x]) w6) := ⟨HG5.out.2, HG5.out.1, r6.more (by omega)⟩
            clear C5 r6 hr5 e0 e1 e2
            go_wp2
            go_roundw
            case rel => exact ⟨k + 1, n + 1, l ++ [x], a5, q5, by go_num, rfl, by omega, by omega, HN⟩
            case measure => first | omega | (simp only [intOf]; omega) | (simp; omega)
        · have hch : chk x.1 x.2.1 x.2.2 = 2 := by show (if fm x = true then (0 : Int) else 2) = 2; rw [if_neg hf]
          rw [hch] at C
          clear hch hf HU
          unfold vl at C
          unfold vb at C n0 n1 n2 HI1
          have C5 := HI1.out.run fun No hn t => is_row (l := l) t HG.out.2 (by omega) (by rw [HG.out.1]; omega) w.heap.size a q (by rw [HG.out.1]; have := HI1.out.lv; rw [HG.out.1] at this; exact this) (fun y e => hn y (by rw [HG.out.1] at e; exact e))
          rw [HG.out.1] at C5
          go_wp2_with fail
          refine C.mono ?_
          rintro e w3 ⟨rfl, rfl⟩
          clear C
          go_wp2_with fail
          refine C5.mono ?_
          rintro e w6 ⟨rfl, r6⟩
          have HN : Hid (l.length = n ∧ Gl l ∧ RJ w T (w1.heap.size + 1) w1.heap.size (20 + 1000 * (k + 1)) 200 l (.slice a n q) l w6) := ⟨HG.out.1, HG.out.2, r6.more (by omega)⟩
          clear C5 r6 HI1 n0 n1 n2 m0 m1 m2 pr
          go_wp2
          go_roundw
          case rel => exact ⟨k + 1, n, l, a, q, by go_num, rfl, by omega, by omega, HN⟩
          case measure => first | omega | (simp only [intOf]; omega) | (simp; omega)
    · have HE : Hid (Below w.heap.size w wr) := HI.out.2.2.bl
      clear HI
      by_cases k1 : k < L
      · have q1 : (k : Int) < (L : Int) := by omega
        by_cases k2 : k < P
        · have q2 : (k : Int) < (P : Int) := by omega
          have q3 : ¬ (k : Int) < 100 := by omega
          go_wp2
          go_ret
          exact ⟨rfl, HE.out⟩
        · have q2 : ¬ (k : Int) < (P : Int) := by omega
          go_wp2
          go_ret
          exact ⟨rfl, HE.out⟩
      · have q1 : ¬ (k : Int) < (L : Int) := by omega
        go_wp2
        go_ret
        exact ⟨rfl, HE.out⟩
end Go.Proofs.YtckgoedlgecokaaGreatDoor
