/- A list put behind a list of the call's own. -/
import Derived.Test.YteknjkofmkigoabFix
import Derived.Laws.OwnMore
namespace Go.Proofs.Yteknjkofmkigoab
open Go.RowKit

theorem wp_app {P : Program} {W W' : World} {v' : Value} {ops : Array Oper} {rest : List Oper} {o : Oper} {a : Act} {Q : Exit → Act → World → Prop} (hw : Region.wanted o (yielded ops a.tmps) = true) (s x : Operand) (t : TypeId)
    (ho : o.op = .call { callee := .builtin .append, args := #[s, x], argTypes := #[t, t] }) (ty : TypeId) (hty : o.type = ty) (vs vx : Value) (hs : a.eval s = vs) (hx : a.eval x = vx)
    (hr : (Builtin.append_ #[t, t] ty #[vs, vx]).run P W = .ok v' W') (h : wpList P ops Q rest (a.put o.dst v') W') : wpList P ops Q (o :: rest) a W :=
  wpList_step fun _ hK => by
    rw [if_pos hw]
    unfold Oper.wp execOp
    simp only [ho, hty, resolve, invoke, builtin, Sem.run_bind, Sem.run_pure, Result.andThen_ok, List.map_toArray, List.map_cons, List.map_nil, hs, hx, hr]
    exact hK _ _ h

theorem app_none {P : Program} {w : World} (base : Nat) (t ty e : TypeId) (i : TypeInfo) (size : Nat) (ht : P.underlying t = some (.slice e)) (hi : P.info? e = some i)
    (v : Value) (n : Nat) (xs : List Value) (c : Nat) (hown : w.ownsRow base e size v n xs) :
    (Builtin.append_ #[t, t] ty #[v, .slice none 0 c]).run P w = .ok v w := by
  rcases hown.2 with ⟨rfl, rfl⟩ | ⟨g, cap, cur, rfl, _, _, hnc, _⟩
  · simp [Builtin.append_, run_underlying ht, sizeOf, typeInfo, hi, Builtin.lenOf, Builtin.firstCells]
  · simp [Builtin.append_, run_underlying ht, sizeOf, typeInfo, hi, Builtin.lenOf, Builtin.firstCells, hnc, storeCells]

theorem app_list (xs l : List Int) (v v2 : Value) (w : World) (B : Nat) (ho : w.ownsRow B 3 1 v xs.length (xs.map (Value.int .i64))) (h : Ints w.heap.size w v2 l)
    (hbig : (xs.length + l.length) * 8 ≤ 140737488355328) (hB : B ≤ w.heap.size) :
    ∃ v' w', (Builtin.append_ #[22, 22] 22 #[v, v2]).run Try.prog w = .ok v' w' ∧ w'.ownsRow B 3 1 v' (xs ++ l).length ((xs ++ l).map (Value.int .i64)) ∧ w.grownBy w' v.ownBlock := by
  obtain ⟨i0, hi, hz0, hz1, hz2⟩ := info_parts info3
  obtain ⟨a, cap, rfl, hcap, h⟩ := h
  rw [List.length_append, List.map_append]
  cases a with
  | none =>
    have hl : l = [] := by
      by_cases hl : l = []
      · exact hl
      · obtain ⟨b, off, q, _⟩ := h hl; cases q
    subst hl
    refine ⟨v, w, app_none B 22 22 3 i0 1 Try.underlying22 hi v _ _ cap ho, by simpa using ho, ⟨rfl, rfl, rfl, Nat.le_refl _, fun _ _ _ => rfl⟩⟩
  | some a =>
    obtain ⟨v', w', hr, hown, hg, _⟩ := run_append_own (P := Try.prog) w B 22 22 3 i0 (.int .i64 0) 1 8 Try.underlying22 hi hz0 hz1 hz2 rfl (by omega) v xs.length _ ho a l.length cap (l.map (Value.int .i64)) (by simp) (by
      intro j u hu
      have hj : j < l.length := by
        obtain ⟨q, _⟩ := List.getElem?_eq_some_iff.1 hu
        simpa using q
      have hl : l ≠ [] := by intro q; rw [q] at hj; simp at hj
      obtain ⟨b, off, q, hb, hc⟩ := h hl
      injection q with q
      subst q
      have e : (Addr.add ⟨b, off, none⟩ j) = ⟨b, off + j, none⟩ := by
        by_cases hj0 : j = 0
        · subst hj0; rfl
        · simp [Addr.add, hj0]
      rw [e, hc j hj, ← hu]
      simp [List.getD, List.getElem?_eq_getElem hj]) (by
      intro u hu
      obtain ⟨x, _, rfl⟩ := List.mem_map.1 hu
      rfl) (by unfold maxLen; omega) hbig hB
    exact ⟨v', w', hr, hown, hg⟩

/-- A copy: append to an empty list that was just made. -/
theorem app_copy (l : List Int) (v2 : Value) (w : World) (h : Ints (w.alloc (.cells #[] 3)).heap.size (w.alloc (.cells #[] 3)) v2 l) (hbig : l.length * 8 ≤ 140737488355328) :
    ∃ v' w', (Builtin.append_ #[22, 22] 22 #[.slice (some ⟨w.heap.size, 0, none⟩) 0 0, v2]).run Try.prog (w.alloc (.cells #[] 3)) = .ok v' w' ∧ w'.ownsRow w.heap.size 3 1 v' l.length (l.map (Value.int .i64)) ∧ Below w.heap.size w w' := by
  obtain ⟨v', w', h1, h2, h3⟩ := app_list [] l (.slice (some ⟨w.heap.size, 0, none⟩) 0 0) v2 (w.alloc (.cells #[] 3)) w.heap.size (World.ownsRow_made w #[] 0 (Nat.le_refl _) (Nat.zero_le _) rfl) h (by simpa using hbig) (by simp)
  exact ⟨v', w', h1, by simpa using h2, (balloc w _).grown h3 (by simp) (fun k hk => by cases hk; exact Nat.le_refl _)⟩

end Go.Proofs.Yteknjkofmkigoab
