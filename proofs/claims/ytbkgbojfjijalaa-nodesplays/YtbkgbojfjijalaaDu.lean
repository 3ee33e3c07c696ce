/- The walk of Dump; Put at all arguments; what stays true. -/
import Derived.Test.YtbkgbojfjijalaaNw
import Derived.Laws.OwnMore
namespace Go.Proofs.Ytbkgbojfjijalaa
open Go.RowKit

/-- Put at all arguments. -/
theorem put_all {b a z : Nat} {g : G} (k v : V) (w : World) (h : Pt w b a z g) (hi : Inv z (pl z) KOK g) (hz : Rt z) (hr : Rng k) :
    Calls Try.prog 12 #[pp b, vl k.1 k.2.1 k.2.2, vl v.1 v.2.1 v.2.2] w fun e w' => e = .returned (.tuple #[.int .i64 ((put z g k v).2.1 : Nat), .int .i64 (put z g k v).2.2]) ∧ Pt w' b a z (put z g k v).1 ∧ Keep (fun x => x ≠ a ∧ x ≠ b) w w' := by
  by_cases hf : fm k = true ∧ fm v = true
  · by_cases hk : k.1 = 0
    · have e : put z g k v = (g, 0, 9) := by rw [put, if_pos hf, if_pos hk]
      rw [e]
      exact (put_key k v w hf hk).mono fun e w' ⟨h1, h2⟩ => ⟨h1, h.below h2, Keep.of h2⟩
    · by_cases hz0 : z = 0
      · have e : put z g k v = (g, 0, if v.1 = 0 then 0 else 12) := by rw [put, if_pos hf, if_neg hk, if_pos hz0]
        rw [e]
        exact (put_zero k v w h.sizes hf hk hr (by rw [hz0]; exact pw0)).mono fun e w' ⟨h1, h2⟩ => ⟨h1, h.below h2, Keep.of h2⟩
      · exact put_good k v w h hi (hz.resolve_left hz0) ⟨hf.1, hk, hr.1, hr.2⟩ hf.2
  · have e : put z g k v = (g, 0, 2) := by rw [put, if_neg hf]
    rw [e]
    exact (put_form k v w hf).mono fun e w' ⟨h1, h2⟩ => ⟨h1, h.below h2, Keep.of h2⟩

theorem put_inv {z : Nat} {g : G} (k v : V) (hi : Inv z (pl z) KOK g) (hz : Rt z) (hr : Rng k) : Inv z (pl z) KOK (put z g k v).1 ∧ (put z g k v).1.f ≤ g.f := by
  by_cases hf : fm k = true ∧ fm v = true
  · by_cases hk : k.1 = 0
    · rw [put, if_pos hf, if_pos hk]; exact ⟨hi, Nat.le_refl _⟩
    · by_cases hz0 : z = 0
      · rw [put, if_pos hf, if_neg hk, if_pos hz0]; exact ⟨hi, Nat.le_refl _⟩
      · rw [put, if_pos hf, if_neg hk, if_neg hz0]
        have hz' := hz.resolve_left hz0
        have hK : KOK k := ⟨hf.1, hk, hr.1, hr.2⟩
        cases e : find (pl z) g k with
        | mk o n =>
          cases o with
          | some i =>
            obtain ⟨q1, q2, q3⟩ := hi.find_some (fun k _ => pl_lt hz' k) hK e
            exact ⟨hi.setX v (by rw [q1]; exact hK.ne), Nat.le_refl _⟩
          | none =>
            simp only
            split
            · exact ⟨hi, Nat.le_refl _⟩
            · exact hi.ins (fun k _ => pl_lt hz' k) v hK hK.ne (hi.find_none (fun k _ => pl_lt hz' k) hK.ne e)
  · rw [put, if_neg hf]; exact ⟨hi, Nat.le_refl _⟩

/-- Its cells in a row. -/
def rowOf (F : Nat → Nat → Value) (z : Nat) : List Value := (List.range (z * 7)).map (fun j => F (j / 7) (j % 7))
theorem rowOf_at (F : Nat → Nat → Value) (z j : Nat) (h : j < z * 7) : (rowOf F z)[j]? = some (F (j / 7) (j % 7)) := by
  unfold rowOf
  rw [List.getElem?_map, List.getElem?_range h]
  rfl
theorem rowOf_len (F : Nat → Nat → Value) (z : Nat) : (rowOf F z).length = z * 7 := by simp [rowOf]
theorem nc_one (k x : V) (l : Int) (j : Nat) : (nc k x l j).oneCell' = true := by
  unfold nc
  split <;> rfl

theorem clone_app (a z cap : Nat) (F : Nat → Nat → Value) (w : World) (hv : Rc w a z F) (hlt : a < w.heap.size) (h1 : ∀ i j, (F i j).oneCell' = true) (hz : z ≤ 65536) :
    ∃ g' c' w', (Builtin.append_ #[35, 35] 35 #[.slice (some ⟨w.heap.size, 0, none⟩) 0 0, .slice (some ⟨a, 0, none⟩) z cap]).run Try.prog (w.alloc (.cells #[] 54)) = .ok (.slice (some ⟨g', 0, none⟩) z c') w' ∧
      Rc w' g' z F ∧ (∀ j, w'.frozen? ⟨g', j, none⟩ = false) ∧ w.heap.size ≤ g' ∧ g' < w'.heap.size ∧ Below w.heap.size w w' := by
  obtain ⟨i0, hi, hz0, hz1, hz2⟩ := info_parts info54
  have hb0 : Below w.heap.size w (w.alloc (.cells #[] 54)) := b1 w _
  have hv2 : Rc (w.alloc (.cells #[] 54)) a z F := hv.block (hb0.block a hlt)
  obtain ⟨v', w', hr, hown, hg, hne⟩ := run_append_own (P := Try.prog) (w.alloc (.cells #[] 54)) w.heap.size 35 35 54 i0 (vn nil nil 0) 7 72 Try.underlying35 hi hz0 hz1 hz2 rfl (by omega)
    (.slice (some ⟨w.heap.size, 0, none⟩) 0 0) 0 [] (World.ownsRow_made w #[] 0 (Nat.le_refl _) (Nat.zero_le _) rfl)
    ⟨a, 0, none⟩ z cap (rowOf F z) (rowOf_len F z) (fun j u hu => by
      have hj : j < z * 7 := by
        obtain ⟨h, _⟩ := List.getElem?_eq_some_iff.1 hu
        rw [rowOf_len] at h
        exact h
      rw [rowOf_at F z j hj] at hu
      have h2 := hv2.c (j / 7) (by omega) (j % 7) (by omega)
      have e : (Addr.add ⟨a, 0, none⟩ j) = ⟨a, j / 7 * 7 + j % 7, none⟩ := by
        have e2 : j / 7 * 7 + j % 7 = j := by omega
        rw [e2]
        by_cases hj0 : j = 0
        · subst hj0; rfl
        · simp [Addr.add, hj0]
      rw [e, h2]
      exact hu) (fun u hu => by
        unfold rowOf at hu
        rw [List.mem_map] at hu
        obtain ⟨j, _, rfl⟩ := hu
        exact h1 _ _) (by simp only [maxLen]; omega) (by omega) (by simp)
  have hbel : Below w.heap.size w w' := hb0.grown hg (by simp) (fun k hk => by
    simp only [Value.ownBlock, Option.some.injEq] at hk
    omega)
  simp only [Nat.zero_add, List.nil_append] at hown
  have hown2 := hown
  rcases hown.2 with ⟨h', _⟩ | ⟨g, c, cur, rfl, hbg, hgo, _, _, _, _⟩
  · have := hne.1 h'
    simp at this
  · have hlt : g < w'.heap.size := by
      rw [Array.getElem?_eq_some_iff] at hgo
      exact hgo.1
    refine ⟨g, c, w', hr, ⟨fun i hi j hj => ?_⟩, fun j => ?_, hbg, hlt, hbel⟩
    · rw [hown2.cellAt _ (by omega), rowOf_at F z _ (by omega)]
      have e1 : (i * 7 + j) / 7 = i := by omega
      have e2 : (i * 7 + j) % 7 = j := by omega
      rw [e1, e2]
    · unfold World.frozen?
      rw [hgo]
      simp

/-- Append by a run's equation. -/
theorem wp_app {P : Program} {W W' : World} {v' : Value} {ops : Array Oper} {rest : List Oper} {o : Oper} {a : Act} {Q : Exit → Act → World → Prop} (hgd : o.guard = none) (s x : Operand) (t : TypeId)
    (ho : o.op = .call { callee := .builtin .append, args := #[s, x], argTypes := #[t, t] }) (ty : TypeId) (hty : o.type = ty) (vs vx : Value) (hs : a.eval s = vs) (hx : a.eval x = vx)
    (hr : (Builtin.append_ #[t, t] ty #[vs, vx]).run P W = .ok v' W') (h : wpList P ops Q rest (a.put o.dst v') W') : wpList P ops Q (o :: rest) a W :=
  wpList_plain hgd fun _ hK => by
    unfold Oper.wp execOp
    simp only [ho, hty, resolve, invoke, builtin, Sem.run_bind, Sem.run_pure, Result.andThen_ok, List.map_toArray, List.map_cons, List.map_nil, hs, hx, hr]
    exact hK _ _ h
theorem notnil (a z cap : Nat) (W : World) : (binOp .eql 35 (.slice (some ⟨a, 0, none⟩) z cap) (.slice none 0 0)).run Try.prog W = .ok (.bool false) W := by kernel_rfl
set_option maxHeartbeats 1000000 in
theorem clone_any (a z cap : Nat) (F : Nat → Nat → Value) (w : World) (hv : Rc w a z F) (hlt : a < w.heap.size) (h1 : ∀ i j, (F i j).oneCell' = true) (hz : z ≤ 65536) :
    Calls Try.prog 33 #[.slice (some ⟨a, 0, none⟩) z cap] w fun e w' => ∃ g' c', e = .returned (.slice (some ⟨g', 0, none⟩) z c') ∧ Rc w' g' z F ∧ (∀ j, w'.frozen? ⟨g', j, none⟩ = false) ∧ w.heap.size ≤ g' ∧ g' < w'.heap.size ∧ Below w.heap.size w w' := by
  obtain ⟨g', c', W1, hr, H⟩ := clone_app a z cap F w hv hlt h1 hz
  have HH : Hid _ := H
  clear H h1
  have hn := notnil a z cap
  go_enter Try.func33, Try.ntmps33
  go_wp2_with (at_builtin; refine wp_app rfl _ _ 35 rfl 35 rfl _ _ rfl rfl hr ?_)
  go_ret
  exact ⟨g', c', rfl, HH.out⟩

set_option maxHeartbeats 1000000 in
theorem dump_any {b a z : Nat} {g : G} (w : World) (h : Pt w b a z g) (hz : z ≤ 65536) :
    Calls Try.prog 16 #[pp b] w fun e w' => ∃ g' c', e = .returned (.slice (some ⟨g', 0, none⟩) z c') ∧ Rc w' g' z (nf (pl z) g) ∧ (∀ j, w'.frozen? ⟨g', j, none⟩ = false) ∧ w.heap.size ≤ g' ∧ g' < w'.heap.size ∧ Below w.heap.size w w' := by
  have C := clone_any a z z (nf (pl z) g) w h.row h.lta (fun i j => nc_one _ _ _ _) hz
  have c1 := h.all
  clear h
  unfold pp
  go_enter Try.func16, Try.ntmps16
  go_wp2_with fail
  refine C.mono ?_; rintro e w' ⟨g', c', rfl, H⟩
  have HH : Hid _ := H
  clear H C
  go_wp2_with fail
  go_ret
  exact ⟨g', c', rfl, HH.out⟩
set_option maxHeartbeats 1000000 in
theorem dump_nil (w : World) : Calls Try.prog 16 #[.pointer none] w fun e w' => e = .returned (.slice none 0 0) ∧ w' = w := by
  go_enter Try.func16, Try.ntmps16
  go_wp2
  go_ret; exact ⟨rfl, rfl⟩

set_option maxHeartbeats 1000000 in
theorem mkI (n : Int) (w : World) : Calls Try.prog 13 #[.int .i64 n] w fun e w' => e = .returned (vl 2 n ⟨#[]⟩) ∧ Below w.heap.size w w' := by
  have HW := b1 w (vb 2 n ⟨#[]⟩)
  unfold vl vb at *
  go_enter Try.func13, Try.ntmps13
  go_wp2
  refine bodyPost_ret (v := .agg #[.int .i64 2, .int .i64 n, .string ⟨#[]⟩]) (by simp [results, Try.results13, go_sem]) rfl ⟨rfl, ?_⟩
  exact HW
set_option maxHeartbeats 1000000 in
theorem mkT (n : Int) (w : World) : Calls Try.prog 29 #[.int .i64 n] w fun e w' => e = .returned (vl 4 n ⟨#[]⟩) ∧ Below w.heap.size w w' := by
  have HW := b1 w (vb 4 n ⟨#[]⟩)
  unfold vl vb at *
  go_enter Try.func29, Try.ntmps29
  go_wp2
  refine bodyPost_ret (v := .agg #[.int .i64 4, .int .i64 n, .string ⟨#[]⟩]) (by simp [results, Try.results29, go_sem]) rfl ⟨rfl, ?_⟩
  exact HW
set_option maxHeartbeats 1000000 in
theorem mkS (s : ByteArray) (w : World) : Calls Try.prog 28 #[.string s] w fun e w' => e = .returned (vl 3 0 s) ∧ Below w.heap.size w w' := by
  have HW := b1 w (vb 3 0 s)
  unfold vl vb at *
  go_enter Try.func28, Try.ntmps28
  go_wp2
  refine bodyPost_ret (v := .agg #[.int .i64 3, .int .i64 0, .string s]) (by simp [results, Try.results28, go_sem]) rfl ⟨rfl, ?_⟩
  exact HW
set_option maxHeartbeats 1000000 in
theorem right_any (z : Int) (w : World) : Calls Try.prog 10 #[.int .i64 z] w fun e w' => e = .returned (.bool (rt z)) ∧ w' = w := by
  have C := power_any z
  by_cases h : z = 0
  · have e : rt z = true := by rw [h]; rfl
    rw [e]
    subst h
    clear e
    go_enter Try.func10, Try.ntmps10
    go_wp2_with fail
    go_ret; exact ⟨rfl, rfl⟩
  · have e : rt z = pw z := by simp [rt, h]
    rw [e]
    clear e
    generalize pw z = q at *
    go_enter Try.func10, Try.ntmps10
    go_wp2_with (go_at_call 30; refine (C _).mono ?_; rintro e w' ⟨rfl, rfl⟩)
    go_ret; exact ⟨ret_bool (by simp [h]), rfl⟩
end Go.Proofs.Ytbkgbojfjijalaa
