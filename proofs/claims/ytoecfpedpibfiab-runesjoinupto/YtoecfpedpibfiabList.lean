/- The walk of List: a new slice of the text's runes. -/
import Derived.Test.YtoecfpedpibfiabCount
namespace Go.Proofs.Ytoecfpedpibfiab
open Go.RowKit

/-- The cells of runes in a slice. -/
def cellsOf (l : List Rn) : List Value := l.flatMap fun r => [.int .i64 r.1, .int .i64 r.2.1, .int .i64 r.2.2]
theorem cellsOf_snoc (l : List Rn) (r : Rn) : cellsOf (l ++ [r]) = cellsOf l ++ [.int .i64 r.1, .int .i64 r.2.1, .int .i64 r.2.2] := by simp [cellsOf]

theorem enters30 : ∀ args w, (callFunc 13 args).run Try.prog w = .ok (.enter 13 args) w := enters_of Try.func13 (by kernel_rfl) rfl

theorem slice_shape {w : World} {base : Nat} {e : TypeId} {size : Nat} {v : Value} {n : Nat} {xs : List Value} (h : w.ownsRow base e size v n xs) : ∃ a c, v = .slice a n c := by
  rcases h.2 with ⟨rfl, rfl⟩ | ⟨g, cap, cur, rfl, _⟩
  · exact ⟨_, _, rfl⟩
  · exact ⟨_, _, rfl⟩

theorem Try.info28 : (Try.prog.info? 28).map (fun i => (i.zero, i.size, i.bytes)) = some (some (.agg #[.int .i64 0, .int .i64 0, .int .i64 0]), 3, 24) := by kernel_rfl

set_option maxHeartbeats 1000000 in
theorem list_step (b : Nat) (W : World) (v : Value) (n : Nat) (xs : List Value) (x y z : Int) (hb : b + 2 ≤ W.heap.size) (hc : W.cell? ⟨b, 0, none⟩ = some v) (hf : W.frozen? ⟨b, 0, none⟩ = false)
    (hown : W.ownsRow (b + 2) 28 3 v n xs) (hn : (n + 1) * 24 ≤ 140737488355328) :
    Calls Try.prog 13 #[.agg #[.int .i64 x, .int .i64 y, .int .i64 z], .pointer (some ⟨b, 0, none⟩)] W fun e W' => e = .returned (.bool true) ∧
      ∃ v', W'.cell? ⟨b, 0, none⟩ = some v' ∧ W'.frozen? ⟨b, 0, none⟩ = false ∧ W'.ownsRow (b + 2) 28 3 v' (n + 1) (xs ++ [.int .i64 x, .int .i64 y, .int .i64 z]) ∧ Below b W W' ∧ W'.heap[b + 1]? = W.heap[b + 1]? := by
  obtain ⟨i0, hi, hz0, hz1, hz2⟩ := info_parts Try.info28
  have hc1 := alloc_cell (by omega) hc
  have hf1 := alloc_frozen (by omega) hf
  have hc2 := fun o => alloc_cell (W := W.alloc o) (by simp; omega) (hc1 o)
  have hf2 := fun o => alloc_frozen (W := W.alloc o) (by simp; omega) (hf1 o)
  obtain ⟨a0, c0, rfl⟩ := slice_shape hown
  go_enter Try.func13, Try.ntmps13
  go_wp2_with (at_builtin; refine wpList_append_own _ rfl _ _ 24 rfl (b + 2) 28 i0 (.agg #[.int .i64 0, .int .i64 0, .int .i64 0]) 3 24 Try.underlying24 hi hz0 hz1 hz2 rfl (by decide) _ _ _ rfl ((hown.alloc _).alloc _) ⟨W.heap.size + 1, 0, none⟩ 1 1 [.int .i64 x, .int .i64 y, .int .i64 z] rfl rfl ?c1 ?c2 ?c3 ?c4 ?c5 ?_)
  case c1 =>
    intro j u hj
    match j, hj with
    | 0, hj => simp at hj; subst hj; simp [Addr.add]
    | 1, hj => simp at hj; subst hj; simp [Addr.add]
    | 2, hj => simp at hj; subst hj; simp [Addr.add]
  case c2 => intro u hu; simp at hu; rcases hu with rfl | rfl | rfl <;> rfl
  case c3 => unfold maxLen; omega
  case c4 => exact hn
  case c5 => simp; omega
  intro v' w1 hown' hgrow _
  obtain ⟨a1, c1, rfl⟩ := slice_shape hown'
  have hne : some b ≠ (Value.slice a0 n c0).ownBlock := fun h => by
    have := (hown.lt b h.symm).1
    omega
  have hne1 : some (b + 1) ≠ (Value.slice a0 n c0).ownBlock := fun h => by
    have := (hown.lt (b + 1) h.symm).1
    omega
  have hbl := hgrow.block b (by simp; omega) hne
  have hbl1 := hgrow.block (b + 1) (by simp; omega) hne1
  have hc3 : w1.cell? ⟨b, 0, none⟩ = some (.slice a0 n c0) := (World.cell?_of_block hbl).trans (hc2 _ _)
  have hf3 : w1.frozen? ⟨b, 0, none⟩ = false := (World.frozen?_of_block hbl).trans (hf2 _ _)
  have hbw : Below b W w1 := (((Below.refl b W).alloc (by omega) _).alloc (by simp; omega) _).grown hgrow (by simp; omega) (fun k hk => by have := (hown.lt k hk).1; omega)
  have HI : Hid (w1.heap[b + 1]? = W.heap[b + 1]?) := by
    show _ = _
    rw [hbl1, iter_alloc (by simp; omega), iter_alloc (by omega)]
  clear hc1 hf1 hc2 hf2 hbl hbl1 hne hne1 hgrow hown hc hf
  go_wp2
  go_ret
  exact ⟨rfl, _, World.cell?_setCell_same _ _ _ hc3, by simpa using hf3, ownsRow_setCell_below hown' (by show b < b + 2; omega) _, hbw.setCell (by exact Nat.le_refl b) _, (iter_set (by omega) _).trans HI.out⟩

theorem own_base {w : World} {base b' : Nat} {e : TypeId} {size : Nat} {v : Value} {n : Nat} {xs : List Value} (h : w.ownsRow base e size v n xs) (hb : b' ≤ base) : w.ownsRow b' e size v n xs := by
  refine ⟨h.1, ?_⟩
  rcases h.2 with h | ⟨g, cap, cur, h1, h2, r⟩
  · exact .inl h
  · exact .inr ⟨g, cap, cur, h1, by omega, r⟩

/-- What the going through keeps: the slice so far. -/
def ListAt (w : World) (done : List Rn) (W : World) : Prop :=
  (∃ v, W.cell? ⟨w.heap.size, 0, none⟩ = some v ∧ W.ownsRow (w.heap.size + 2) 28 3 v done.length (cellsOf done)) ∧ W.frozen? ⟨w.heap.size, 0, none⟩ = false ∧ Below w.heap.size w W ∧ w.heap.size + 2 ≤ W.heap.size

theorem list_size (s : ByteArray) (h : s.size ≤ 1048576) (done : List Rn) (r : Rn) (l : List Rn) (he : rest s 0 = done ++ r :: l) : (done.length + 1) * 24 ≤ 140737488355328 := by
  have h1 := rest_len s 0
  have h2 := congrArg List.length he
  simp only [List.length_append, List.length_cons] at h2
  omega

set_option maxHeartbeats 1000000 in
theorem list_any (s : ByteArray) (w : World) (hs : s.size ≤ 1048576) : Calls Try.prog 6 #[.string s] w fun e w' => ∃ v, e = .returned v ∧ w'.ownsRow w.heap.size 28 3 v (rest s 0).length (cellsOf (rest s 0)) ∧ Below w.heap.size w w' := by
  have HE := each_any s 13 #[.pointer (some ⟨w.heap.size, 0, none⟩)] enters30 (w.alloc (.cells #[.slice none 0 0] 24)) (by omega) (fun _ => true) (ListAt w)
    (by
      have h := own_start w 24 (.slice none 0 0) s
      have hin : (w.heap.size, 0, Value.slice none 0 0) ∈ [(w.heap.size, 0, Value.slice none 0 0)] := List.mem_singleton.2 rfl
      exact ⟨⟨_, h.cell _ hin, World.ownsRow_nil _ _ _ _⟩, h.free _ hin, h.below, by have := h.iter.2; omega⟩)
    (fun done W p p' h _ => by
      obtain ⟨⟨v, h1, h2⟩, h3, h4, h5⟩ := h
      simp only [World.size_alloc]
      refine ⟨⟨v, (World.cell?_of_block (Lib.iterAt_other W _ _ s p' (by simp))).trans h1, ownsRow_iterAt h2 (by omega) s p'⟩, (World.frozen?_of_block (Lib.iterAt_other W _ _ s p' (by simp))).trans h3, Lib.below_iterAt h4 (by omega) s p', by rw [Lib.iterAt_size]; exact h5⟩)
    (fun done r l W he _ h _ => by
      obtain ⟨⟨v, h1, h2⟩, h3, h4, h5⟩ := h
      refine (list_step w.heap.size W v done.length (cellsOf done) r.1 r.2.1 r.2.2 h5 h1 h3 h2 (list_size s hs done r l he)).mono fun e W' ⟨he, v', g1, g2, g3, g4, g5⟩ => ?_
      refine ⟨he, ⟨⟨v', g1, ?_⟩, g2, h4.trans g4, Nat.le_trans h5 g4.size⟩, by simpa using g5⟩
      rw [cellsOf_snoc]
      simpa using g3)
  rw [runTo_all, List.nil_append] at HE
  clear hs
  go_enter Try.func6, Try.ntmps6
  go_wp2_with (go_at_call 12; refine HE.mono ?_; rintro e W ⟨rfl, ⟨v, hcW, hoW⟩, hfW, hbW, hzW⟩)
  go_ret
  exact ⟨v, rfl, own_base hoW (by omega), hbW⟩

#print axioms list_any
end Go.Proofs.Ytoecfpedpibfiab
