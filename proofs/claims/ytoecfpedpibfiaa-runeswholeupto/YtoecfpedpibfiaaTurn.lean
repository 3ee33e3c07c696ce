/- The walk of Turned. -/
import Derived.Test.YtoecfpedpibfiaaPartAny
import Derived.Lib.BufferWrite
namespace Go.Proofs.Ytoecfpedpibfiaa
open Go.RowKit

theorem enters35 : ∀ args w, (callFunc 35 args).run Try.prog w = .ok (.enter 35 args) w := enters_of Try.func35 (by kernel_rfl) rfl

/-- copy of a string into a row, as an operation. -/
theorem wpList_copy_string {P : Program} {w : World} {ops : Array Oper} {rest : List Oper} {o : Oper} {a : Act} {Q : Exit → Act → World → Prop} (hgd : o.guard = none) (d s : Operand) (dT sT : TypeId)
    (ho : o.op = .call { callee := .builtin .copy, args := #[d, s], argTypes := #[dT, sT] }) (elem : TypeId) (hu : P.underlying dT = some (.slice elem)) (hsz : (P.info? elem).map (·.size) = some 1)
    (g off dLen dCap : Nat) (x : ByteArray) (hd : a.eval d = .slice (some ⟨g, off, none⟩) dLen dCap) (hs : a.eval s = .string x)
    (cur : Array Value) (t : TypeId) (hg : w.heap[g]? = some (.cells cur t (0, 0))) (hle : x.size ≤ dLen) (hfit : off + x.size ≤ cur.size)
    (h : wpList P ops Q rest (a.put o.dst (goInt x.size)) (w.setRow g (cur.toList.take off ++ bc x.data.toList ++ cur.toList.drop (off + x.size)).toArray)) : wpList P ops Q (o :: rest) a w := by
  refine wpList_plain hgd fun K hK => ?_
  have hrun := Lib.run_copy_row_string (P := P) w dT sT o.type elem g off dLen dCap x cur t hu hsz hg hle hfit
  unfold Oper.wp
  simp [execOp, ho, resolve, invoke, builtin, hd, hs, hrun, Result.andThen]
  refine hK _ _ ?_
  rw [List.append_assoc] at h
  exact h

theorem Try.size5 : (Try.prog.info? 5).map (·.size) = some 1 := by kernel_rfl

set_option maxHeartbeats 1000000 in
theorem turn_step (e v t g : Nat) (W : World) (x y z : Nat) (E N : Nat) (s : ByteArray) (cur : List Value) (he : e < W.heap.size) (hv : v < W.heap.size) (ht : t < W.heap.size) (hg : g < W.heap.size) (hge : g ≠ e)
    (ce : W.cell? ⟨e, 0, none⟩ = some (.int .i64 E)) (fe : W.frozen? ⟨e, 0, none⟩ = false) (cv : W.cell? ⟨v, 0, none⟩ = some (.slice (some ⟨g, 0, none⟩) N N)) (ct : W.cell? ⟨t, 0, none⟩ = some (.string s)) (hev : v ≠ e) (het : t ≠ e)
    (hrow : W.heap[g]? = some (.cells cur.toArray 5 (0, 0))) (hN : cur.length = N) (hy : 1 ≤ y) (hyE : y ≤ E) (hEN : E ≤ N) (hxy : x + y ≤ s.size) (hs : s.size ≤ 1048576) (hNs : N ≤ 1048576) :
    Calls Try.prog 35 #[.agg #[.int .i64 x, .int .i64 y, .int .i64 z], .pointer (some ⟨e, 0, none⟩), .pointer (some ⟨v, 0, none⟩), .pointer (some ⟨t, 0, none⟩)] W fun r W' => r = .returned (.bool true) ∧
      ∃ W1, Below W.heap.size (W.setCell ⟨e, 0, none⟩ (.int .i64 ((E - y : Nat) : Int))) W1 ∧ W' = W1.setRow g (cur.take (E - y) ++ bc (s.extract x (x + y)).data.toList ++ cur.drop E).toArray := by
  have ce1 := alloc_cell he ce
  have fe1 := alloc_frozen he fe
  obtain ⟨q, hq⟩ : ∃ q, x + y = q := ⟨_, rfl⟩
  obtain ⟨d, hd⟩ : ∃ d, E - y = d := ⟨_, rfl⟩
  have hwr : IntKind.i64.wrap ((x : Int) + (y : Int)) = (q : Int) := by rw [IntKind.wrap_i64]; omega
  have hwd : IntKind.i64.wrap ((E : Int) - (y : Int)) = (d : Int) := by rw [IntKind.wrap_i64]; omega
  have hxq : (x : Int) ≤ (q : Int) := by omega
  have hqs : (q : Int) ≤ (s.size : Int) := by omega
  have hdN : (d : Int) ≤ (N : Int) := by omega
  rw [hq, hd]
  go_enter Try.func35, Try.ntmps35
  go_wp2
  have hz : (W.setCell ⟨e, 0, none⟩ (.int .i64 d)).heap.size = W.heap.size := size_set _ _ _
  have k1 : ((W.setCell ⟨e, 0, none⟩ (.int .i64 d)).alloc (.cells #[.int .i64 x, .int .i64 y, .int .i64 z] 30)).cell? ⟨e, 0, none⟩ = some (.int .i64 d) := alloc_cell (by rw [hz]; exact he) (World.cell?_setCell_same _ _ _ ce) _
  have k2 : ((W.setCell ⟨e, 0, none⟩ (.int .i64 d)).alloc (.cells #[.int .i64 x, .int .i64 y, .int .i64 z] 30)).cell? ⟨v, 0, none⟩ = some (.slice (some ⟨g, 0, none⟩) N N) := alloc_cell (by rw [hz]; exact hv) (by rw [World.cell?_setCell_other _ _ _ _ (fun h => hev (congrArg Addr.block h).symm)]; exact cv) _
  have k3 : ((W.setCell ⟨e, 0, none⟩ (.int .i64 d)).alloc (.cells #[.int .i64 x, .int .i64 y, .int .i64 z] 30)).cell? ⟨t, 0, none⟩ = some (.string s) := alloc_cell (by rw [hz]; exact ht) (by rw [World.cell?_setCell_other _ _ _ _ (fun h => het (congrArg Addr.block h).symm)]; exact ct) _
  have k4 := (new_cell (W.setCell ⟨e, 0, none⟩ (.int .i64 d)) [.int .i64 x, .int .i64 y, .int .i64 z] 30 0 _ rfl).1
  have k5 := (new_cell (W.setCell ⟨e, 0, none⟩ (.int .i64 d)) [.int .i64 x, .int .i64 y, .int .i64 z] 30 1 _ rfl).1
  have k6 : ((W.setCell ⟨e, 0, none⟩ (.int .i64 d)).alloc (.cells #[.int .i64 x, .int .i64 y, .int .i64 z] 30)).heap[g]? = some (.cells cur.toArray 5 (0, 0)) := (iter_alloc (by rw [hz]; exact hg) _).trans ((iter_set (Ne.symm hge) _).trans hrow)
  rw [hz] at k4 k5
  have HB : Hid (Below W.heap.size (W.setCell ⟨e, 0, none⟩ (.int .i64 d)) ((W.setCell ⟨e, 0, none⟩ (.int .i64 d)).alloc (.cells #[.int .i64 x, .int .i64 y, .int .i64 z] 30))) := (Below.refl _ _).alloc (by rw [hz]; exact Nat.le_refl _) _
  change ((W.setCell ⟨e, 0, none⟩ (.int .i64 d)).alloc (.cells #[.int .i64 x, .int .i64 y, .int .i64 z] 30)).cell? ⟨W.heap.size, 0, none⟩ = _ at k4
  change ((W.setCell ⟨e, 0, none⟩ (.int .i64 d)).alloc (.cells #[.int .i64 x, .int .i64 y, .int .i64 z] 30)).cell? ⟨W.heap.size, 1, none⟩ = _ at k5
  generalize (W.setCell ⟨e, 0, none⟩ (.int .i64 d)).alloc (.cells #[.int .i64 x, .int .i64 y, .int .i64 z] 30) = w1 at k1 k2 k3 k4 k5 k6 HB ⊢
  have hNd : ¬ N = d := by omega
  refine wp_tail 12 (by kernel_rfl) (by kernel_rfl) ?_
  simp only [List.take_succ_cons, List.take_zero, List.drop_succ_cons, List.drop_zero]
  repeat still_step
  refine wpStill_nil ?_
  have hsz : (s.extract x q).size = y := by simp [ByteArray.size_extract]; omega
  have hlN : cur.toArray.size = N := by simpa using hN
  refine wpList_copy_string rfl _ _ 50 9 rfl 5 Try.underlying50 Try.size5 g d (N - d) (N - d) (s.extract x q) rfl rfl cur.toArray 5 k6 ?c1 ?c2 ?_
  case c1 => omega
  case c2 => omega
  have HD : Hid (d + (s.extract x q).size = E) := by show _ = _; omega
  rw [HD.out]
  have HB2 : Hid (Below W.heap.size (W.setCell ⟨e, 0, none⟩ (.int .i64 d)) w1.drew) := ⟨HB.out.1, HB.out.2, HB.out.3, HB.out.4, HB.out.5⟩
  generalize w1.drew = w2 at HB2 ⊢
  obtain ⟨X, HX⟩ : ∃ X, Hid ((cur.take d ++ bc (s.extract x q).data.toList ++ cur.drop E).toArray = X) := ⟨_, rfl⟩
  rw [show (cur.toArray.toList.take d ++ bc (s.extract x q).data.toList ++ cur.toArray.toList.drop E).toArray = X from HX.out]
  clear k1 k2 k3 k4 k5 k6 HB hwr hwd ce1 fe1
  go_wp2
  go_ret
  exact ⟨rfl, w2, HB2.out, by rw [HX.out]⟩

end Go.Proofs.Ytoecfpedpibfiaa
