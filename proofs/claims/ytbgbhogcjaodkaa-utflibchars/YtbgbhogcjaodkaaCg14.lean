/- The walk of the law UtflibChars. -/
import Derived.Test.YtbgbhogcjaodkaaCg06
import Derived.Laws.OwnMore
import Derived.Deep.AppendLies
import Derived.ProofKit
import Derived.OpenShut
import Derived.ChangeSlices
import Derived.ChangeOld
import Derived.SizedLaws
import Derived.Deep.Slices
namespace Go.Proofs.Ytbgbhogcjaodkaa
open Go.RowKit

theorem info3i : (Try.prog.info? 3).map (fun i => (i.zero, i.size, i.bytes)) = some (some (.int .i64 0), 1, 8) := by kernel_rfl
theorem balloc (w : World) (o : Obj) : Below w.heap.size w (w.alloc o) := (Below.refl _ _).alloc (Nat.le_refl _) o
theorem ints_new (w : World) (l : List Int) (cap : Nat) (hc : l.length ≤ cap) : Ints (w.alloc (.cells (l.map (Value.int .i64)).toArray 3)).heap.size (w.alloc (.cells (l.map (Value.int .i64)).toArray 3)) (.slice (some ⟨w.heap.size, 0, none⟩) l.length cap) l := by
  refine ⟨_, cap, rfl, hc, fun _ => ⟨w.heap.size, 0, rfl, by simp, fun i hi => ?_⟩⟩
  rw [(new_cell w (l.map (Value.int .i64)) 3 (0 + i) (.int .i64 (l.getD i 0)) (by simp [List.getD, hi])).1]
theorem wp_app {P : Program} {W W' : World} {v' : Value} {ops : Array Oper} {rest : List Oper} {o : Oper} {a : Act} {Q : Exit → Act → World → Prop} (hw : Region.wanted o (yielded ops a.tmps) = true) (s x : Operand) (t : TypeId)
    (ho : o.op = .call { callee := .builtin .append, args := #[s, x], argTypes := #[t, t] }) (ty : TypeId) (hty : o.type = ty) (vs vx : Value) (hs : a.eval s = vs) (hx : a.eval x = vx)
    (hr : (Builtin.append_ #[t, t] ty #[vs, vx]).run P W = .ok v' W') (h : wpList P ops Q rest (a.put o.dst v') W') : wpList P ops Q (o :: rest) a W :=
  wpList_step fun _ hK => by
    rw [if_pos hw]
    unfold Oper.wp execOp
    simp only [ho, hty, resolve, invoke, builtin, Sem.run_bind, Sem.run_pure, Result.andThen_ok, List.map_toArray, List.map_cons, List.map_nil, hs, hx, hr]
    exact hK _ _ h

theorem app_none {P : Program} {w : World} (base : Nat) (t ty e : TypeId) (i : TypeInfo) (size : Nat) (ht : P.underlying t = some (.slice e)) (hi : P.info? e = some i)
    (v : Value) (n : Nat) (xs : List Value) (c : Nat) (hown : w.ownsRow base e size v n xs) :
    (Builtin.append_ #[t, t] ty #[v, .slice none 0 c]).run P w = .ok v w := by
  rcases hown.2 with ⟨rfl, rfl⟩ | ⟨g, cap, cur, rfl, _, _, hnc, _⟩
  · simp [Builtin.append_, run_underlying ht, sizeOf, typeInfo, hi, Builtin.lenOf, Builtin.firstCells]
  · simp [Builtin.append_, run_underlying ht, sizeOf, typeInfo, hi, Builtin.lenOf, Builtin.firstCells, hnc, storeCells]

theorem app_list (xs l : List Int) (v v2 : Value) (w : World) (B : Nat) (ho : w.ownsRow B 3 1 v xs.length (xs.map (Value.int .i64))) (h : Ints w.heap.size w v2 l)
    (hbig : (xs.length + l.length) * 8 ≤ 140737488355328) (hB : B ≤ w.heap.size) :
    ∃ v' w', (Builtin.append_ #[25, 25] 25 #[v, v2]).run Try.prog w = .ok v' w' ∧ w'.ownsRow B 3 1 v' (xs ++ l).length ((xs ++ l).map (Value.int .i64)) ∧ w.grownBy w' v.ownBlock := by
  obtain ⟨i0, hi, hz0, hz1, hz2⟩ := info_parts info3i
  obtain ⟨a, cap, rfl, hcap, h⟩ := h
  rw [List.length_append, List.map_append]
  cases a with
  | none =>
    have hl : l = [] := by
      by_cases hl : l = []
      · exact hl
      · obtain ⟨b, off, q, _⟩ := h hl; cases q
    subst hl
    refine ⟨v, w, app_none B 25 25 3 i0 1 Try.underlying25 hi v _ _ cap ho, by simpa using ho, ⟨rfl, rfl, rfl, Nat.le_refl _, fun _ _ _ => rfl⟩⟩
  | some a =>
    obtain ⟨v', w', hr, hown, hg, _⟩ := run_append_own (P := Try.prog) w B 25 25 3 i0 (.int .i64 0) 1 8 Try.underlying25 hi hz0 hz1 hz2 rfl (by omega) v xs.length _ ho a l.length cap (l.map (Value.int .i64)) (by simp) (by
      intro j u hu
      have hj : j < l.length := by
        obtain ⟨q, _⟩ := List.getElem?_eq_some_iff.1 hu
        simpa using q
      have hl : l ≠ [] := by intro q; rw [q] at hj; simp at hj
      obtain ⟨b, off, q, hb, hc⟩ := h hl
      injection q with q
      subst q
      have e : (Addr.add ⟨b, off, none⟩ j) = ⟨b, off + j, none⟩ := by
        by_cases hj0 : j = 0
        · subst hj0; rfl
        · simp [Addr.add, hj0]
      rw [e, hc j hj, ← hu]
      simp [List.getD, List.getElem?_eq_getElem hj]) (by
      intro u hu
      obtain ⟨x, _, rfl⟩ := List.mem_map.1 hu
      rfl) (by unfold maxLen; omega) hbig hB
    exact ⟨v', w', hr, hown, hg⟩

theorem make_room (L : Nat) (hL : L ≤ 17592186044416) (W : World) : (Instr.makeSlice 25 (.int .i64 0) (.int .i64 ((L : Int) + 1))).run Try.prog W = .ok (.slice (some ⟨W.heap.size, 0, none⟩) 0 (L + 1)) (W.alloc (.cells (madeCells (Value.int .i64 0).cells ((L + 1) * 1)) 3)) := by
  obtain ⟨i0, hi, hz0, hz1, hz2⟩ := info_parts info3i
  have h := run_make (P := Try.prog) W 25 3 i0 (.int .i64 0) Try.underlying25 hi hz0 .i64 .i64 0 ((L : Int) + 1) (by omega) (by omega) (by rw [hz2]; omega) (by omega)
  rw [hz1] at h
  simpa using h

/-- What the law makes of its keys: a list with 77 behind them. -/
theorem given_any (m : List Int) (v2 : Value) (w : World) (h : Ints w.heap.size w v2 m) (hlen : m.length ≤ 17592186043904) :
    ∃ v3 w3 g c4 w4, (Builtin.append_ #[25, 25] 25 #[.slice (some ⟨w.heap.size, 0, none⟩) 0 (m.length + 1), v2]).run Try.prog (w.alloc (.cells (madeCells (Value.int .i64 0).cells ((m.length + 1) * 1)) 3)) = .ok v3 w3 ∧
      (Builtin.append_ #[25, 25] 25 #[v3, .slice (some ⟨w3.heap.size, 0, none⟩) 1 1]).run Try.prog (w3.alloc (.cells #[.int .i64 77] 3)) = .ok (.slice (some ⟨g, 0, none⟩) (m.length + 1) c4) w4 ∧
      Below w.heap.size w w4 ∧ m.length + 1 ≤ c4 ∧ g < w4.heap.size ∧ ∀ W, Below w4.heap.size w4 W → Ints W.heap.size W (.slice (some ⟨g, 0, none⟩) m.length c4) m ∧ W.cell? ⟨g, m.length, none⟩ = some (.int .i64 77) := by
  have h1 : Ints (w.alloc (.cells (madeCells (Value.int .i64 0).cells ((m.length + 1) * 1)) 3)).heap.size (w.alloc (.cells (madeCells (Value.int .i64 0).cells ((m.length + 1) * 1)) 3)) v2 m := h.go (balloc w _)
  have o1 : (w.alloc (.cells (madeCells (Value.int .i64 0).cells ((m.length + 1) * 1)) 3)).ownsRow w.heap.size 3 1 (.slice (some ⟨w.heap.size, 0, none⟩) 0 (m.length + 1)) ([] : List Int).length (([] : List Int).map (Value.int .i64)) := by
    refine ⟨rfl, .inr ⟨w.heap.size, m.length + 1, _, rfl, Nat.le_refl _, (MapKept.heap_alloc w _).1, Nat.zero_le _, by unfold maxLen; omega, ?_, by simp⟩⟩
    simp [madeCells]
  obtain ⟨v3, w3, e1, o3, g3⟩ := app_list [] m _ v2 _ w.heap.size o1 h1 (by simp; omega) (by simp)
  have b3 : Below w.heap.size w w3 := (balloc w _).grown g3 (by simp) (fun k hk => by cases hk; exact Nat.le_refl _)
  have i77 : Ints (w3.alloc (.cells #[.int .i64 77] 3)).heap.size (w3.alloc (.cells #[.int .i64 77] 3)) (.slice (some ⟨w3.heap.size, 0, none⟩) 1 1) [77] := ints_new w3 [77] 1 (Nat.le_refl _)
  rw [List.nil_append] at o3
  obtain ⟨v4, w4, e2, o4, g4⟩ := app_list m [77] v3 (.slice (some ⟨w3.heap.size, 0, none⟩) 1 1) _ w.heap.size (o3.alloc _) i77 (by simp; omega) (by have := b3.size; simp; omega)
  have hl4 : (m ++ [(77 : Int)]).length = m.length + 1 := by simp
  rw [hl4] at o4
  obtain ⟨g, c4, rfl, hg, hg2⟩ := o4.form (by omega)
  have hs := b3.size
  refine ⟨v3, w3, g, c4, w4, e1, e2, ((b3.alloc hs _).grown g4 (by simp; omega) (fun k hk => (o3.lt k hk).1)), ?_, hg2, fun W hb => ?_⟩
  · rcases o4.2 with ⟨q, _⟩ | ⟨g', cap', cur, q, _, _, q2, _⟩
    · cases q
    · injection q with _ _ q3
      omega
  · have hc : ∀ i, i < m.length + 1 → W.cell? ⟨g, i, none⟩ = some (.int .i64 ((m ++ [77]).getD i 0)) := fun i hi => by
      rw [hb.cell (by exact hg2), o4.cellAt i (by omega)]
      rw [List.getElem?_map, List.getElem?_eq_getElem (by simp; omega), List.getD, List.getElem?_eq_getElem (by simp; omega)]
      rfl
    refine ⟨⟨_, c4, rfl, ?_, fun _ => ⟨g, 0, rfl, Nat.lt_of_lt_of_le hg2 hb.size, fun i hi => ?_⟩⟩, ?_⟩
    · rcases o4.2 with ⟨q, _⟩ | ⟨g', cap', cur, q, _, _, q2, _⟩
      · cases q
      · injection q with _ _ q3
        omega
    · rw [Nat.zero_add, hc i (by omega)]
      simp [List.getD, List.getElem?_append_left hi]
    · rw [hc m.length (by omega)]
      simp [List.getD]


set_option maxRecDepth 20000 in
set_option maxHeartbeats 2000000 in
theorem chars_walk (m : List Int) (v2 : Value) (w : World) (i2 : Ints w.heap.size w v2 m) (hlen : m.length * 8 ≤ 140737488351232) :
    Calls Try.prog 4 #[v2] w fun e w' => e = .returned (.bool true) ∧ Below w.heap.size w w' := by
  have hmk := make_room m.length (by omega) w
  obtain ⟨v3, w3, g, c4, w4, e1, e2, b4, hc4, hg4, H4⟩ := given_any m v2 w i2 (by omega)
  obtain ⟨W1, hW1⟩ : ∃ W1, W1 = w.alloc (.cells (madeCells (Value.int .i64 0).cells ((m.length + 1) * 1)) 3) := ⟨_, rfl⟩
  rw [← hW1] at hmk e1
  clear hW1
  have J2 : ∀ W, Below w4.heap.size w4 W → Ints W.heap.size W v2 m := fun W hb => (i2.go b4).go hb
  have K1 : ∀ W, Below w4.heap.size w4 W → Calls Try.prog 15 #[.slice (some ⟨g, 0, none⟩) m.length c4] W fun e w' => e = .returned (.tuple #[.string (chF [] m).1, .int .i64 (chF [] m).2]) ∧ Below W.heap.size W w' := fun W hb => char_any m _ W (H4 W hb).1 (by omega)
  have K2 : ∀ W, Below w4.heap.size w4 W → Calls Try.prog 16 #[v2] W fun e w' => e = .returned (.tuple #[.string (chF [] m).1, .int .i64 (chF [] m).2]) ∧ Below W.heap.size W w' := fun W hb => rchar_any m _ W (J2 W hb) (by omega)
  have K5 : ∀ W, Below w4.heap.size w4 W → Calls Try.prog 14 #[.slice (some ⟨g, 0, none⟩) m.length c4, v2] W fun e w' => e = .returned (.bool true) ∧ Below W.heap.size W w' := fun W hb => by
    have := sameints_any m m _ _ W (H4 W hb).1 (J2 W hb) (by omega)
    rwa [decide_eq_true rfl] at this
  have C7 : ∀ W, Below w4.heap.size w4 W → W.cell? ⟨g, m.length, none⟩ = some (.int .i64 77) := fun W hb => (H4 W hb).2
  have C3 := fixed_any
  clear H4 J2
  obtain ⟨a2, cap2, rfl, hcap2, _⟩ := i2
  obtain ⟨S, E⟩ := chF [] m
  generalize m.length = L at *
  have hc4' : (L : Int) + 1 ≤ (c4 : Int) := by omega
  have hwr : IntKind.i64.wrap ((L : Int) + 1) = (L : Int) + 1 := by rw [IntKind.wrap_i64]; omega
  have HB : Hid (Below w4.heap.size w4 w4) := Below.refl _ _
  go_enter Try.func4, Try.ntmps4
  go_wp2_with (first
    | (at_builtin; refine wp_app rfl _ _ 25 rfl 25 rfl (.slice (some ⟨w.heap.size, 0, none⟩) 0 (L + 1)) (.slice a2 L cap2) rfl rfl e1 ?_)
    | (at_builtin; refine wp_app rfl _ _ 25 rfl 25 rfl v3 (.slice (some ⟨w3.heap.size, 0, none⟩) 1 1) rfl rfl e2 ?_; clear hmk e1 e2; have C8 := C7 _ HB.out)
    | (go_at_call 15; refine (K1 _ HB.out).mono ?_; rintro e w5 ⟨rfl, d5⟩; have HB : Hid (Below w4.heap.size w4 w5) := (bthen HB.out HB.out.size d5))
    | (go_at_call 16; refine (K2 _ HB.out).mono ?_; rintro e w5 ⟨rfl, d5⟩; have HB : Hid (Below w4.heap.size w4 w5) := (bthen HB.out HB.out.size d5))
    | (go_at_call 13; refine (C3 _).mono ?_; rintro e w5 ⟨rfl, d5⟩; have HB : Hid (Below w4.heap.size w4 w5) := (bthen HB.out HB.out.size d5))
    | (go_at_call 14; refine (K5 _ HB.out).mono ?_; rintro e w5 ⟨rfl, d5⟩; have HB : Hid (Below w4.heap.size w4 w5) := (bthen HB.out HB.out.size d5); have C8 := C7 _ HB.out))
  go_ret
  exact ⟨by simp, bthen b4 b4.size HB.out⟩
end Go.Proofs.Ytbgbhogcjaodkaa

/- How a list of ints that came in is read. -/
namespace Go.Proofs.Ytbgbhogcjaodkaa
open Go.RowKit Go.ChangeShapes Go.WideShapes Go.ChangeAt Go.Deep

theorem cells3 : Try.prog.cellsOf 3 = 1 := by kernel_rfl
theorem bytes3 : Try.prog.bytesOf 3 = 8 := by kernel_rfl
theorem laidOut : laidOutB Try.prog = true := by kernel_rfl

theorem open_list {H : Type} {enc : TypeId × Value → H} {W : World} {base b0 : Nat} {held : Bool} {r : Reach} {v : Value} {d : DataW H} {ps : List MemPlace}
    (hval : Value.okWide Try.prog W r b0 25 v) (hd : DataW.Trod enc Try.prog W base (fun _ => true) held 25 v d ps) :
    ∃ l : List Int, Ints W.heap.size W v l ∧ True ∧ (l = [] ∨ ∃ elems spare : List (DataW H), d = .slice elems spare ∧ elems.length = l.length) := by
  obtain ⟨a0, l0, c0, rfl⟩ := okWide_slice Try.underlying25 hval
  obtain ⟨fuel, hf⟩ := hd
  rcases open_ints Try.underlying25 Try.underlying3 cells3 hf with ⟨h0, _⟩ | ⟨a, len, cap, zs, h0, hb, hl, hm, hz, hx, hc, hw⟩
  · have e : (Value.slice a0 l0 c0) = .slice none 0 0 := by simpa [Value.cells] using h0
    rw [e]
    exact ⟨[], ⟨none, 0, rfl, Nat.le_refl _, fun h => absurd rfl h⟩, trivial, .inl rfl⟩
  · have e : (Value.slice a0 l0 c0) = .slice (some a) len cap := by simpa [Value.cells] using h0
    rw [e]
    simp only [if_true] at hz
    have hlen : (zs.take len).length = len := by simp; omega
    have hg : ∀ i, i < len → (zs.take len).getD i 0 = zs.getD i 0 := fun i hi => by simp [List.getD, hi]
    refine ⟨zs.take len, ⟨some a, cap, by rw [hlen], by rw [hlen]; exact hl, fun hne => ?_⟩, trivial, .inr ⟨_, _, (Prod.mk.inj hx).1, by simp [lits]⟩⟩
    · have h0 : 0 < len := by
        rcases Nat.eq_zero_or_pos len with q | q
        · rw [q] at hne; simp at hne
        · exact q
      have hc0 := hc 0 (by omega)
      have ha : a.add 0 = a := rfl
      rw [ha] at hc0
      obtain ⟨b, off, spot⟩ := a
      have hs : spot = none := by
        cases spot with
        | none => rfl
        | some q => unfold World.cell? at hc0; split at hc0 <;> simp at hc0
      subst hs
      refine ⟨b, off, rfl, World.block_lt_of_cell? W _ hc0, fun i hi => ?_⟩
      rw [hlen] at hi
      have := hc i (by omega)
      have e2 : (Addr.add ⟨b, off, none⟩ i) = ⟨b, off + i, none⟩ := by
        by_cases hj0 : i = 0
        · subst hj0; rfl
        · simp [Addr.add, hj0]
      rw [e2] at this
      rw [this, hg i hi]

end Go.Proofs.Ytbgbhogcjaodkaa
