/- The walk of Concat, over what shown answers. -/
import Derived.Test.YtckgoedlgecokaaGreatDoorCg23
import Derived.Lib.AppendStr
import Derived.Lib.Buffer
import Derived.Lib.UnsafeStr
import Derived.Deep.RegionLaw
namespace Go.Proofs.YtckgoedlgecokaaGreatDoor
open Go.RowKit
theorem info5 : (Tryz.prog.info? 5).map (fun i => (i.zero, i.size, i.bytes)) = some (some (.int .u8 0), 1, 1) := by kernel_rfl
set_option maxRecDepth 20000 in
theorem conv_row {W : World} {base : Nat} {v : Value} {l : List UInt8} (h : W.ownsRow base 5 1 v l.length (Lib.byteCells l)) : (convert 71 9 v).run Tryz.prog W = .ok (.string ⟨l.toArray⟩) W := by
  rcases h.2 with ⟨rfl, h0⟩ | ⟨g, cap, cur, rfl, _, hg, hc1, _, hc3, htk⟩
  · have : l = [] := List.eq_nil_of_length_eq_zero h0
    subst this
    exact run_convert_bytes_nil W 71 5 Tryz.underlying71 Tryz.underlying5 0 0 9 Tryz.underlying9
  · have hr := run_convert_bytes_arg (P := Tryz.prog) W 71 5 Tryz.underlying71 Tryz.underlying5 g 0 l.length cap (l.map fun b => (b.toNat : Int)) (by simp) (fun i hi => by
      have := Lib.cells_of_row hg l.length i (.int .u8 (l[i]).toNat) (by rw [Nat.mul_one] at htk; rw [htk]; simp [Lib.byteCells, hi])
      rw [Nat.zero_add]
      have e : (l.map fun b => (b.toNat : Int)).getD i 0 = (l[i]).toNat := by simp [List.getD, hi]
      rw [e]
      by_cases hi0 : i = 0
      · subst hi0; simpa [Addr.add] using this
      · simpa [Addr.add, hi0] using this) 9 Tryz.underlying9
    rw [hr]
    congr 2
    unfold strOfNums
    rw [List.map_map]
    congr 2
    have : ((fun n : Int => UInt8.ofNat n.toNat) ∘ fun b : UInt8 => (b.toNat : Int)) = id := by funext b; simp
    rw [this, List.map_id]
theorem wp_apps {P : Program} {W W' : World} {v' : Value} {ops : Array Oper} {rest : List Oper} {o : Oper} {a : Act} {Q : Exit → Act → World → Prop} (hgd : o.guard = none) (s x : Operand) (t u : TypeId)
    (ho : o.op = .call { callee := .builtin .append, args := #[s, x], argTypes := #[t, u] }) (ty : TypeId) (hty : o.type = ty) (vs vx : Value) (hs : a.eval s = vs) (hx : a.eval x = vx)
    (hr : (Builtin.append_ #[t, u] ty #[vs, vx]).run P W = .ok v' W') (h : wpList P ops Q rest (a.put o.dst v') W') : wpList P ops Q (o :: rest) a W :=
  wpList_plain hgd fun _ hK => by
    unfold Oper.wp execOp
    simp only [ho, hty, resolve, invoke, builtin, Sem.run_bind, Sem.run_pure, Result.andThen_ok, List.map_toArray, List.map_cons, List.map_nil, hs, hx, hr]
    exact hK _ _ h
theorem own_app {w : World} {base n : Nat} {v : Value} {acc l : List UInt8} {x : ByteArray} (h : w.ownsRow base 5 1 v n (Lib.byteCells acc ++ Lib.strCells x)) (hn : n = acc.length + x.size) (hx : x.data.toList = l) : w.ownsRow base 5 1 v (acc ++ l).length (Lib.byteCells (acc ++ l)) := by
  subst hx hn
  have e1 : (acc ++ x.data.toList).length = acc.length + x.size := by rw [List.length_append, Array.length_toList]; rfl
  rw [e1, Lib.byteCells_append]
  exact h
/-- What Concat has made when so many parts have come. -/
def ctL (tx : Nat → ByteArray) (sep : ByteArray) : Nat → List UInt8
  | 0 => []
  | k + 1 => ctL tx sep k ++ (tx k).data.toList ++ sep.data.toList
theorem sz_l (s : ByteArray) : s.data.toList.length = s.size := by rw [Array.length_toList]; rfl
theorem ctL_len {tx : Nat → ByteArray} {sep : ByteArray} (hs : sep.size ≤ 50) : ∀ k, (∀ j, j < k → (tx j).size ≤ 100) → (ctL tx sep k).length ≤ 150 * k
  | 0, _ => Nat.le_refl _
  | k + 1, h => by
    have := ctL_len hs k fun j hj => h j (by omega)
    have := h k (by omega)
    rw [ctL, List.length_append, List.length_append, sz_l, sz_l]
    omega
/-- What Concat's loop keeps: the table, the bytes, the steps. -/
structure CI (No : Nat → Prop) (w : World) (T S hb c X : Nat) (a : Int) (K : Nat) (f : Int → V) (fuel made : Int) (v : Value) (l : List UInt8) (wx : World) : Prop where
  tw : ∃ No' : Nat → Prop, Tw No' wx T S hb c a K f ∧ (∀ g, No g → No' g) ∧ No' X ∧ ∀ q, v.ownBlock = some q → No' q
  sp : Sp wx X fuel made
  ow : wx.ownsRow (X + 1) 5 1 v l.length (Lib.byteCells l)
  lt : X + 1 ≤ wx.heap.size
  kp : Keep No w wx
theorem own_kept {No : Nat → Prop} {w w' : World} {base : Nat} {e : TypeId} {size : Nat} {v : Value} {n : Nat} {xs : List Value} (h : w.ownsRow base e size v n xs) (k : Keep No w w') (hn : ∀ g, v.ownBlock = some g → No g) : w'.ownsRow base e size v n xs := by
  refine ⟨h.1, ?_⟩
  rcases h.2 with q | ⟨g, cap, cur, rfl, h2, h3, h4⟩
  · exact .inl q
  · have hlt : g < w.heap.size := (Array.getElem?_eq_some_iff.1 h3).1
    exact .inr ⟨g, cap, cur, rfl, h2, by rw [k.block g hlt (hn g rfl)]; exact h3, h4⟩
set_option maxRecDepth 20000 in
theorem app_at {w w' : World} {base : Nat} {v v' : Value} {n : Nat} {xs : List Value} (hown : w.ownsRow base 5 1 v n xs) (s : ByteArray) (ty : TypeId) (hr : (Builtin.append_ #[71, 9] ty #[v, .string s]).run Tryz.prog w = .ok v' w') (hn : n + s.size ≤ 20000) : v'.ownBlock = v.ownBlock ∨ ∀ q, v'.ownBlock = some q → w.heap.size ≤ q := by
  obtain ⟨i, hi, hz, hsize, hby⟩ := info_parts info5
  have hxl : xs.length = n := by simpa using hown.1
  rcases hown.2 with ⟨rfl, rfl⟩ | ⟨g, cap, cur, rfl, hbg, hg, hnc, hcm, hcs, htake⟩
  · by_cases hm : s.size = 0
    · left
      have hf := Lib.run_firstCells_string (P := Tryz.prog) w 1 s
      rw [hm] at hf
      have h2 : (Builtin.append_ #[71, 9] ty #[.slice none 0 0, .string s]).run Tryz.prog w = .ok (.slice none 0 0) w := by
        simp [Builtin.append_, run_underlying Tryz.underlying71, run_underlying Tryz.underlying9, sizeOf, typeInfo, hi, hsize, Builtin.lenOf, hm, hf]
      rw [h2] at hr
      injection hr with e1 e2
      rw [← e1]
    · right
      have h2 := run_append_nil_string (P := Tryz.prog) w 71 9 ty 5 i (.int .u8 0) Tryz.underlying71 Tryz.underlying9 hi hz s (by omega) (by omega) (by rw [hby]; omega)
      rw [h2] at hr
      injection hr with e1 e2
      rw [← e1]
      intro q e
      have e' : w.heap.size = q := by simpa [Value.ownBlock] using e
      omega
  · by_cases hroom : n + s.size ≤ cap
    · left
      have hcs' : cur.size = cap := by simpa using hcs
      have h2 := Lib.run_append_room_string (P := Tryz.prog) w 71 9 ty 5 i Tryz.underlying71 Tryz.underlying9 hi hsize g n cap cur hg s hroom (by omega)
      rw [h2] at hr
      injection hr with e1 e2
      rw [← e1]
      rfl
    · right
      have holds : ∀ j u, xs[j]? = some u → w.cell? ((⟨g, 0, none⟩ : Addr).add j) = some u := hown.cells (g := g) rfl
      have h2 := Lib.run_append_grow_string (P := Tryz.prog) w 71 9 ty 5 i (.int .u8 0) Tryz.underlying71 Tryz.underlying9 hi hz ⟨g, 0, none⟩ n cap xs (by rw [hsize]; simpa using hxl) holds s (by omega) (by omega) (by rw [hby]; exact growslice_fits (by omega) (by omega))
      rw [h2] at hr
      injection hr with e1 e2
      rw [← e1]
      intro q e
      have e' : w.heap.size = q := by simpa [Value.ownBlock] using e
      omega
section
variable {No : Nat → Prop} {w wx wy : World} {T S hb c X : Nat} {a : Int} {K : Nat} {f : Int → V} {fuel made : Int} {v : Value} {l : List UInt8}
theorem CI.below (h : CI No w T S hb c X a K f fuel made v l wx) (k : Below wx.heap.size wx wy) : CI No w T S hb c X a K f fuel made v l wy := by
  obtain ⟨N, h1, h2, h3, h4⟩ := h.tw
  exact ⟨⟨N, h1.below k, h2, h3, h4⟩, h.sp.kept (No := fun _ => True) (Keep.of k) trivial, own_kept (No := fun _ => True) h.ow (Keep.of k) fun _ _ => trivial, Nat.le_trans h.lt k.size, h.kp.bel k⟩
theorem CI.step (h : CI No w T S hb c X a K f fuel made v l wx) (hX : ¬ No X) : CI No w T S hb c X a K f fuel (made + 1) v l (wx.drew.setCell ⟨X, 1, none⟩ (.int .i64 (made + 1))) := by
  obtain ⟨N, h1, h2, h3, h4⟩ := h.tw
  have hne : ∀ q, v.ownBlock = some q → q ≠ X := fun q e => by have := (h.ow.lt q e).1; omega
  refine ⟨⟨N, h1.drew.cell h3 _, h2, h3, h4⟩, h.sp.drew.set _, own_kept (No := fun g => g ≠ X) h.ow.drew (((Keep.refl _ wx.drew)).set (p := ⟨X, 1, none⟩) (fun q => q rfl) _) hne, ?_, (h.kp.drew).set (p := ⟨X, 1, none⟩) hX _⟩
  simpa [World.setCell] using h.lt
theorem CI.get (h : CI No w T S hb c X a K f fuel made v l wx) (hc : c ≤ 900000) (x : Int) (hx : I64 x) : Calls Tryz.prog 31 #[tp T, .int .i64 x] wx fun e w' => e = .returned (vv (f x)) ∧ CI No w T S hb (c + 1) X a K f fuel made v l w' := by
  obtain ⟨N, h1, h2, h3, h4⟩ := h.tw
  exact (h1.get31 hc x hx).mono fun e w' ⟨he, t, k⟩ => ⟨he, ⟨⟨N, t, h2, h3, h4⟩, h.sp.kept k h3, own_kept h.ow k h4, Nat.le_trans h.lt k.size, h.kp.trans (k.sub h2)⟩⟩
theorem CI.app (h : CI No w T S hb c X a K f fuel made v l wx) (hN : ∀ g, No g → g ≤ X) {v' : Value} {l' : List UInt8} (g : wx.grownBy wy v.ownBlock) (o : wy.ownsRow (X + 1) 5 1 v' l'.length (Lib.byteCells l')) (hb' : v'.ownBlock = v.ownBlock ∨ ∀ q, v'.ownBlock = some q → wx.heap.size ≤ q) : CI No w T S hb c X a K f fuel made v' l' wy := by
  obtain ⟨N, h1, h2, h3, h4⟩ := h.tw
  have hlt := h.lt
  refine ⟨⟨_, h1.frame g h4, fun q hq => .inl (h2 q hq), .inl h3, fun q hq => ?_⟩, ?_, o, Nat.le_trans h.lt g.size, h.kp.trans ⟨g.os, g.tape, g.output, g.size, fun q hq hn => g.block q hq fun e => ?_⟩⟩
  · rcases hb' with e | e
    · exact .inl (h4 q (e ▸ hq))
    · exact .inr ⟨e q hq, (o.lt q hq).2⟩
  · have e := g.block X (by omega) (fun e => by have := (h.ow.lt X e.symm).1; omega)
    exact ⟨by rw [World.cell?_of_block (w := wx) e]; exact h.sp.c0, by rw [World.cell?_of_block (w := wx) e]; exact h.sp.c1, fun j => by rw [World.frozen?_of_block (w := wx) e]; exact h.sp.fz j, by have := g.size; omega⟩
  · have := (h.ow.lt q e.symm).1
    have := hN q hn
    omega
theorem CI.str (h : CI No w T S hb c X a K f fuel made v l wx) (hN : ∀ g, No g → g ≤ X) (s : ByteArray) (hn : l.length + s.size ≤ 20000) :
    ∃ p q w', (Builtin.append_ #[71, 9] 71 #[v, .string s]).run Tryz.prog wx = .ok (.slice p (l.length + s.size) q) w' ∧ CI No w T S hb c X a K f fuel made (.slice p (l.length + s.size) q) (l ++ s.data.toList) w' := by
  obtain ⟨i, hi, hz, hsize, hby⟩ := info_parts info5
  obtain ⟨v', w', hr, h2, h3, _⟩ := Lib.run_append_own_string (P := Tryz.prog) wx (X + 1) 71 9 71 5 i Tryz.underlying71 Tryz.underlying9 hi hz hsize hby v l.length (Lib.byteCells l) h.ow s (by unfold maxLen; omega) (by omega) h.lt
  have e := app_at h.ow s 71 hr hn
  obtain ⟨p, q, rfl⟩ := slice_shape h2
  exact ⟨p, q, w', hr, h.app hN h3 (own_app h2 rfl rfl) e⟩
end
section
variable {No : Nat → Prop} {w : World} {T S hb c : Nat} {a : Int} {K : Nat} {f : Int → V}
theorem CI.drew {X : Nat} {fuel made : Int} {v : Value} {l : List UInt8} {wx : World} (h : CI No w T S hb c X a K f fuel made v l wx) : CI No w T S hb c X a K f fuel made v l wx.drew := h.below (Below.refl _ _).drew
set_option maxRecDepth 20000 in
set_option maxHeartbeats 4000000 in
theorem concat_any (h : Tw No w T S hb c a K f) (hc : c ≤ 400000) (i : Int) (n : Nat) (hi : I64 i) (hj : I64 (i + n)) (sep : ByteArray) (hsep : sep.size ≤ 50) (hn : n ≤ 60) (fuel : Int) (hf : (n : Int) + 1 ≤ fuel) (hf1 : fuel ≤ 1000000)
    (tx : Nat → ByteArray) (htx : ∀ k, k ≤ n → (tx k).size ≤ 100) (hS : ∀ k : Nat, k ≤ n → ∀ W, Calls Tryz.prog 33 #[vv (f (i + k))] W fun e w' => e = .returned (.tuple #[.string (tx k), .int .i64 0]) ∧ Below W.heap.size W w') :
    Calls Tryz.prog 18 #[tp T, .string sep, .int .i64 i, .int .i64 (i + n), .int .i64 fuel] w fun e w' => e = .returned (.tuple #[.string ⟨(ctL tx sep n ++ (tx n).data.toList).toArray⟩, .int .i64 ((n : Int) + 1), .int .i64 0]) ∧ Tw No w' T S hb (c + 100) a K f ∧ Keep No w w' := by
  have f0 : ¬ fuel < 0 := by omega
  have g0 : ¬ (i + (n : Int)) < i := by omega
  obtain ⟨No2, h0, n1, n2, n3⟩ := h.box (.cells #[.int .i64 fuel, .int .i64 0] 66)
  have HNo : Hid ((∀ g, No g → g ≤ w.heap.size) ∧ ¬ No w.heap.size) := ⟨fun g q => Nat.le_of_lt (h.nos q), n3⟩
  have HI : Hid (CI No w T S hb c w.heap.size a K f fuel 0 (.slice none 0 0) [] (w.alloc (.cells #[.int .i64 fuel, .int .i64 0] 66))) := ⟨⟨No2, h0, n1, n2, fun q e => by cases e⟩, Sp.made w fuel 66, World.ownsRow_nil _ _ _ _, by simp, Keep.of (b1 _ _)⟩
  have HJ : Hid (I64 i ∧ I64 (i + n)) := ⟨hi, hj⟩
  have HS : Hid _ := hS
  clear h h0 n1 n2 n3 hi hj hS
  go_enter Tryz.func18, Tryz.ntmps18
  go_wp2
  go_loopw [1, 13, 15] (fun sv v iv wx => ∃ k : Nat, ∃ p q, sv = .string sep ∧ v = .slice p (ctL tx sep k).length q ∧ iv = .int .i64 (i + k) ∧ k ≤ n ∧ Hid (CI No w T S hb (c + k) w.heap.size a K f fuel (k : Nat) (.slice p (ctL tx sep k).length q) (ctL tx sep k) wx)) (fun _ _ iv _ => (i + n - intOf iv).toNat)
  case atStart => exact ⟨0, none, 0, rfl, rfl, by go_num, by omega, HI⟩
  case round =>
    clear HI
    obtain ⟨k, p, q, rfl, rfl, rfl, hk, HI⟩ := hrel
    have hlen := ctL_len hsep k fun j hj => htx j (by omega)
    have hx := htx k hk
    have C3 := HS.out k hk
    have HT : Hid (∀ x, tx k = x → ctL tx sep (k + 1) = ctL tx sep k ++ x.data.toList ++ sep.data.toList) := fun x e => by rw [ctL, e]
    obtain ⟨l, hl⟩ : ∃ l, ctL tx sep k = l := ⟨_, rfl⟩
    have HL : Hid (ctL tx sep k = l) := hl
    obtain ⟨x, hxx⟩ : ∃ x, tx k = x := ⟨_, rfl⟩
    have HX : Hid (tx k = x) := hxx
    rw [hl] at hlen HI ⊢
    rw [hxx] at hx C3
    clear hl hxx
    have C1 := step_yes HI.out.sp (by omega) (by omega) (by omega)
    have H2 := HI.out.step HNo.out.2
    obtain ⟨W2, hW2⟩ : ∃ W2, wr.drew.setCell ⟨w.heap.size, 1, none⟩ (.int .i64 ((k : Int) + 1)) = W2 := ⟨_, rfl⟩
    rw [hW2] at C1 H2
    have C2 := H2.get (by omega) (i + k) (by have := HJ.out.1.1; have := HJ.out.2.2; exact ⟨by omega, by omega⟩)
    have w1 : IntKind.i64.wrap ((l.length : Int) + (x.size : Int)) = (l.length : Int) + (x.size : Int) := by rw [IntKind.wrap_i64]; omega
    clear H2 hW2 HI
    obtain ⟨y, hy⟩ : ∃ y, f (i + k) = y := ⟨_, rfl⟩
    rw [hy] at C2 C3
    clear hy
    by_cases hkn : k = n
    · subst hkn
      go_wp2_with fail
      refine C1.mono ?_
      rintro e w1 ⟨rfl, rfl⟩
      clear C1
      go_wp2_with fail
      refine C2.mono ?_
      rintro e w3 ⟨rfl, h3⟩
      clear C2
      have H3 : Hid _ := h3
      clear h3
      go_wp2_with fail
      refine (C3 _).mono ?_
      rintro e w4 ⟨rfl, hb4⟩
      have h4 := H3.out.below hb4
      obtain ⟨p5, q5, w5, hr5, h5⟩ := h4.str HNo.out.1 x (by omega)
      obtain ⟨p6, q6, w6, hr6, h6⟩ := h5.str HNo.out.1 ⟨#[]⟩ (by rw [List.length_append, sz_l]; show _ + 0 ≤ _; omega)
      have ev : (l ++ x.data.toList).length + (⟨#[]⟩ : ByteArray).size = l.length + x.size := by rw [List.length_append, sz_l]; rfl
      rw [ev] at hr6 h6
      rw [show l ++ x.data.toList ++ (⟨#[]⟩ : ByteArray).data.toList = l ++ x.data.toList from List.append_nil _] at h6
      have hcv := conv_row h6.drew.ow
      have c1 := h6.drew.sp.c1
      have H6 : Hid _ := h6.drew
      clear C3 H3 hb4 h4 h5 h6 ev
      have g1 : ¬ (10000 : Int) < (l.length : Int) + (x.size : Int) := by omega
      go_wp2_with (first | (at_builtin; refine wp_apps rfl _ _ 71 9 rfl 71 rfl _ _ rfl rfl hr5 ?_; clear hr5) | (at_builtin; refine wp_apps rfl _ _ 71 9 rfl 71 rfl _ _ rfl rfl hr6 ?_; clear hr6))
      go_region
      go_wp2
      refine bodyPost_ret (v := .tuple #[.string ⟨(l ++ x.data.toList).toArray⟩, .int .i64 ((k : Int) + 1), .int .i64 0]) (by simp [results, Tryz.results18, go_sem]) rfl ⟨by rw [HL.out, HX.out], ?_, H6.out.kp⟩
      obtain ⟨N, t1, t2, _⟩ := H6.out.tw
      exact (t1.sub t2).more (by omega)
    · have b0 : (i + (k : Int) == i + (n : Int)) = false := by simp; omega
      have b1 : ¬ (i + (k : Int) = i + (n : Int)) := by omega
      have b2 : ¬ (k = n) := hkn
      have w2 : IntKind.i64.wrap ((l.length : Int) + (x.size : Int) + (sep.size : Int)) = (l.length : Int) + (x.size : Int) + (sep.size : Int) := by rw [IntKind.wrap_i64]; omega
      have w3 : IntKind.i64.wrap (i + (k : Int) + 1) = i + (k : Int) + 1 := by have := HJ.out.1.1; have := HJ.out.2.2; rw [IntKind.wrap_i64]; omega
      have g1 : ¬ (10000 : Int) < (l.length : Int) + (x.size : Int) + (sep.size : Int) := by omega
      go_wp2_with fail
      refine C1.mono ?_
      rintro e w1 ⟨rfl, rfl⟩
      clear C1
      go_wp2_with fail
      refine C2.mono ?_
      rintro e w3 ⟨rfl, h3⟩
      clear C2
      have H3 : Hid _ := h3
      clear h3
      go_wp2_with fail
      refine (C3 _).mono ?_
      rintro e w4 ⟨rfl, hb4⟩
      have h4 := H3.out.below hb4
      obtain ⟨p5, q5, w5, hr5, h5⟩ := h4.str HNo.out.1 x (by omega)
      obtain ⟨p6, q6, w6, hr6, h6⟩ := h5.str HNo.out.1 sep (by rw [List.length_append, sz_l]; omega)
      have H6 : Hid _ := h6
      clear C3 H3 hb4 h4 h5 h6
      go_wp2_with (first | (at_builtin; refine wp_apps rfl _ _ 71 9 rfl 71 rfl _ _ rfl rfl hr5 ?_; clear hr5) | (at_builtin; refine wp_apps rfl _ _ 71 9 rfl 71 rfl _ _ rfl rfl hr6 ?_; clear hr6))
      have el : l.length + x.size + sep.size = (ctL tx sep (k + 1)).length := by rw [HT.out x HX.out, HL.out, List.length_append, List.length_append, sz_l, sz_l]
      go_roundw
      case rel => exact ⟨k + 1, p6, q6, rfl, by rw [el], by go_num, by omega, by rw [← el, HT.out x HX.out, HL.out, Int.natCast_add]; rw [List.length_append, sz_l] at H6; exact H6.out⟩
      case measure => first | omega | (simp only [intOf]; omega) | (simp; omega)
end
end Go.Proofs.YtckgoedlgecokaaGreatDoor

/- The walk of fixed: the document's first example. -/
namespace Go.Proofs.YtckgoedlgecokaaGreatDoor
open Go.RowKit
theorem eqlV (x : V) (W : World) : (binOp .eql 24 (.agg #[.int .i64 x.1, .int .i64 x.2.1, .string x.2.2]) (.agg #[.int .i64 x.1, .int .i64 x.2.1, .string x.2.2])).run Tryz.prog W = .ok (.bool true) W := by
  rw [run_eql_struct, run_equalIn_agg W _ _ _ _ underV stoodV]
  simp [go_sem]
def fx (j : Nat) : List V := (List.range j).map fun i : Nat => kn ((i : Int) + 1)
theorem fx_len (j : Nat) : (fx j).length = j := by simp [fx]
theorem fx_gl (j : Nat) : Gl (fx j) := fun v hv => by
  obtain ⟨i, _, rfl⟩ := List.mem_map.1 hv
  exact ⟨fm_kn _, by simp⟩
theorem fx_succ (j : Nat) : fx (j + 1) = fx j ++ [kn ((j : Int) + 1)] := by unfold fx; rw [List.range_succ, List.map_append]; rfl
def tx4 (k : Nat) : ByteArray := dg1 ([1, 9, 2, 3].getD k 0)
theorem shown4 (k : Nat) (hk : k ≤ 3) (W : World) : Calls Tryz.prog 33 #[vv (rowf [kn 1, kn 9, kn 2, kn 3] (1 + (k : Nat)))] W fun e w' => e = .returned (.tuple #[.string (tx4 k), .int .i64 0]) ∧ Below W.heap.size W w' := by
  have : k = 0 ∨ k = 1 ∨ k = 2 ∨ k = 3 := by omega
  rcases this with rfl | rfl | rfl | rfl
  · exact shown_int 1 (by omega) W
  · exact shown_int 9 (by omega) W
  · exact shown_int 2 (by omega) W
  · exact shown_int 3 (by omega) W
theorem ct4 : (⟨(ctL tx4 ⟨#[45]⟩ 3 ++ (tx4 3).data.toList).toArray⟩ : ByteArray) = ⟨#[49, 45, 57, 45, 50, 45, 51]⟩ := by kernel_rfl
set_option maxRecDepth 20000 in
set_option maxHeartbeats 4000000 in
theorem fixed_any (w : World) : Calls Tryz.prog 9 #[] w fun e w' => e = .returned (.bool true) ∧ Below w.heap.size w w' := by
  have C1 := H.new_walk w 200 (by omega) (by omega)
  have hp := new_hp w 200 (fun g => g < w.heap.size) (fun g q => q)
  have B1 := b2 w (.map #[] 0) (.cells #[.int .i64 200, .int .i64 0, .int .i64 0, .slice none 0 0, .map (some w.heap.size)] 78)
  obtain ⟨W1, hW1⟩ : ∃ W1, (w.alloc (.map #[] 0)).alloc (.cells #[.int .i64 200, .int .i64 0, .int .i64 0, .slice none 0 0, .map (some w.heap.size)] 78) = W1 := ⟨_, rfl⟩
  rw [hW1] at hp B1 C1
  have C2 := new_row hp (by omega) 10 (by omega) (by omega) (by omega)
  have HB : Hid (Below w.heap.size w W1) := B1
  clear hp hW1 B1
  go_enter Tryz.func9, Tryz.ntmps9
  go_wp2_with fail
  refine C1.mono ?_
  rintro e w1 ⟨rfl, rfl⟩
  clear C1
  go_wp2_with fail
  refine C2.mono ?_
  rintro e w2 ⟨T, rfl, t2, k2⟩
  have HI : Hid (Tw (fun g => g < w.heap.size) w2 T (w.heap.size + 1) w.heap.size (0 + 3 + 7 * 0) 1 10 (rowf (fx 0)) ∧ Below w.heap.size w w2) := ⟨t2, HB.out.trans (k2.below HB.out.size fun g q => q)⟩
  clear C2 t2 k2 HB
  go_wp2
  go_loopw [5] (fun iv wx => ∃ j : Nat, iv = .int .i64 ((j : Int) + 1) ∧ j ≤ 3 ∧ Hid (Tw (fun g => g < w.heap.size) wx T (w.heap.size + 1) w.heap.size (0 + 3 + 7 * j) 1 10 (rowf (fx j)) ∧ Below w.heap.size w wx)) (fun iv _ => (4 - intOf iv).toNat)
  case atStart => exact ⟨0, rfl, by omega, HI⟩
  case round =>
    clear HI
    obtain ⟨j, rfl, hj, HI⟩ := hrel
    by_cases hlt : j < 3
    · have h1 : (j : Int) + 1 ≤ 3 := by omega
      have wj : IntKind.i64.wrap ((j : Int) + 1 + 1) = (j : Int) + 1 + 1 := by rw [IntKind.wrap_i64]; omega
      have CI := mkI ((j : Int) + 1)
      go_wp2_with fail
      refine (CI _).mono ?_
      rintro e w3 ⟨rfl, b3⟩
      go_wp2_with fail
      refine (CI _).mono ?_
      rintro e w4 ⟨rfl, b4⟩
      have b34 : Below wr.heap.size wr w4 := bthen b3 b3.size b4
      have CS := (HI.out.1.below b34).set (by omega) ((j : Int) + 1) ⟨by omega, by omega⟩ (kn ((j : Int) + 1)) (.inr ⟨by omega, by omega⟩) (fm_kn _)
      have HB : Hid (Below w.heap.size w w4) := bthen HI.out.2 HI.out.2.size b34
      clear CI b3 b4 b34 HI
      go_wp2_with fail
      refine CS.mono ?_
      rintro e w5 ⟨rfl, t5, k5⟩
      have es : fupd (rowf (fx j)) ((j : Int) + 1) (kn ((j : Int) + 1)) = rowf (fx (j + 1)) := by
        rw [fx_succ, ← rowf_snoc, fx_len]
      rw [es] at t5
      have HN : Hid (Tw (fun g => g < w.heap.size) w5 T (w.heap.size + 1) w.heap.size (0 + 3 + 7 * (j + 1)) 1 10 (rowf (fx (j + 1))) ∧ Below w.heap.size w w5) := ⟨t5, HB.out.trans (k5.below HB.out.size fun g q => q)⟩
      clear CS t5 k5 HB es
      go_wp2
      go_roundw
      case rel => exact ⟨j + 1, by go_num, by omega, HN⟩
      case measure => first | omega | (simp only [intOf]; omega) | (simp; omega)
    · have e0 : j = 3 := by omega
      subst e0
      have CI := mkI 9
      go_wp2_with fail
      refine (CI _).mono ?_
      rintro e w3 ⟨rfl, b3⟩
      have C3 : Calls Tryz.prog 14 #[tp T, .int .i64 2, vv (kn 9), .int .i64 100] w3 fun e w' => e = .returned (.tuple #[.int .i64 2, .int .i64 0]) ∧ Tw (fun g => g < w.heap.size) w' T (w.heap.size + 1) w.heap.size (24 + 9000) 1 10 (rowf [kn 1, kn 9, kn 2, kn 3]) ∧ Keep (fun g => g < w.heap.size) w3 w' :=
        insert_ok (l := fx 3) (HI.out.1.below b3) (fx_gl 3) (by omega) (by rw [fx_len]; omega) (by omega) 1 (by rw [fx_len]; omega) (kn 9) ⟨fm_kn _, by simp⟩ 100 (by rw [fx_len]; omega) (by omega)
      have HB : Hid (Below w.heap.size w w3) := bthen HI.out.2 HI.out.2.size b3
      clear CI b3 HI
      go_wp2_with fail
      refine C3.mono ?_
      rintro e w4 ⟨rfl, t4, k4⟩
      have C4 := concat_any t4 (by omega) 1 3 ⟨by omega, by omega⟩ ⟨by omega, by omega⟩ ⟨#[45]⟩ (by decide) (by omega) 9 (by omega) (by omega) tx4 (fun k hk => by
        have : k = 0 ∨ k = 1 ∨ k = 2 ∨ k = 3 := by omega
        rcases this with rfl | rfl | rfl | rfl <;> decide) shown4
      rw [ct4] at C4
      have HB4 : Hid (Below w.heap.size w w4) := HB.out.trans (k4.below HB.out.size fun g q => q)
      clear C3 t4 k4 HB
      have C4' : Calls Tryz.prog 18 #[tp T, .string ⟨#[45]⟩, .int .i64 1, .int .i64 4, .int .i64 9] w4 fun e w' => e = .returned (.tuple #[.string ⟨#[49, 45, 57, 45, 50, 45, 51]⟩, .int .i64 4, .int .i64 0]) ∧ Tw (fun g => g < w.heap.size) w' T (w.heap.size + 1) w.heap.size (24 + 9000 + 100) 1 10 (rowf [kn 1, kn 9, kn 2, kn 3]) ∧ Keep (fun g => g < w.heap.size) w4 w' := C4
      clear C4
      go_wp2_with fail
      refine C4'.mono ?_
      rintro e w5 ⟨rfl, t5, k5⟩
      have HB5 : Hid (Below w.heap.size w w5) := HB4.out.trans (k5.below HB4.out.size fun g q => q)
      have HT5 : Hid _ := t5
      clear C4' t5 k5 HB4
      have CI4 := mkI 4
      have CI3 := mkI 3
      have eqv : ∀ W, (binOp .eql 24 (.agg #[.int .i64 2, .int .i64 3, .string ⟨#[]⟩]) (.agg #[.int .i64 2, .int .i64 3, .string ⟨#[]⟩])).run Tryz.prog W = .ok (.bool true) W := fun W => eqlV (2, 3, ⟨#[]⟩) W
      go_wp2_with fail
      refine (CI4 _).mono ?_
      rintro e w6 ⟨rfl, b6⟩
      have C6 : Calls Tryz.prog 26 #[tp T, vl 2 4 ⟨#[]⟩] w6 fun e w' => e = .returned (vl 2 3 ⟨#[]⟩) ∧ _ ∧ _ := (HT5.out.below b6).get (by omega) 4 ⟨by omega, by omega⟩
      have HB6 : Hid (Below w.heap.size w w6) := bthen HB5.out HB5.out.size b6
      clear CI4 b6 HT5 HB5
      go_wp2_with fail
      refine C6.mono ?_
      rintro e w7 ⟨rfl, t7, k7⟩
      have HB7 : Hid (Below w.heap.size w w7) := HB6.out.trans (k7.below HB6.out.size fun g q => q)
      clear C6 t7 k7 HB6
      go_wp2_with fail
      refine (CI3 _).mono ?_
      rintro e w8 ⟨rfl, b8⟩
      have HB8 : Hid (Below w.heap.size w w8) := bthen HB7.out HB7.out.size b8
      clear CI3 b8 HB7
      unfold vl
      go_wp2
      go_ret
      exact ⟨rfl, HB8.out⟩
end Go.Proofs.YtckgoedlgecokaaGreatDoor
