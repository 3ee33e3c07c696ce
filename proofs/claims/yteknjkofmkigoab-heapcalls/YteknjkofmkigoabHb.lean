/- The walk of Blocks; a new heap. -/
import Derived.Test.YteknjkofmkigoabHg
namespace Go.Proofs.Yteknjkofmkigoab.H
open Go.RowKit

theorem below_grown {w w' : World} (h : Below w.heap.size w w') : w.grownBy w' none := ⟨h.os, h.tape, h.output, h.size, fun i hi _ => h.block i hi⟩
theorem Keep.of_below {No : Nat → Prop} {w w' : World} (h : Below w.heap.size w w') : Keep No w w' := ⟨h.os, h.tape, h.output, h.size, fun g hg _ => h.block g hg⟩
theorem Hp.below {No : Nat → Prop} {w w' : World} {S b c : Nat} {vb : Value} {s : St} (h : Hp No w S b c vb s) (hb : Below w.heap.size w w') : Hp No w' S b c vb s := by
  obtain ⟨a1, a2, a3, a4, lS, lb⟩ := h.apart
  exact h.via s.R (h.rdy.kept (below_grown hb) (fun g e => by cases e)) (hb.block S lS) (fun q e => hb.block q (h.row.lt q e).2) hb.size (Nat.le_refl _)

/-- The numbers of the blocks that are taken, of the first k. -/
def tids (l : List (Int × Bool)) (k : Nat) : List Int := ((List.range k).filter fun i => (l.getD i (0, false)).2).map fun i : Nat => (i : Int) + 1
theorem tids_succ (l : List (Int × Bool)) (k : Nat) : tids l (k + 1) = tids l k ++ (if (l.getD k (0, false)).2 = true then [(k : Int) + 1] else []) := by
  unfold tids
  rw [List.range_succ, List.filter_append, List.map_append]
  congr 1
  cases q : (l.getD k (0, false)).2
  · rw [if_neg (by simp)]; rw [List.filter_cons_of_neg (by rw [q]; simp)]; rfl
  · rw [if_pos rfl]; rw [List.filter_cons_of_pos (by exact q)]; rfl
theorem tids_len (l : List (Int × Bool)) (k : Nat) : (tids l k).length ≤ k := by
  unfold tids
  rw [List.length_map]
  have := List.length_filter_le (fun i => (l.getD i (0, false)).2) (List.range k)
  rwa [List.length_range] at this

theorem news2 (w : World) (o : Obj) (x : Value) : ∀ j u, ([x] : List Value)[j]? = some u → ((w.alloc o).alloc (.cells #[x] 3)).cell? ((⟨w.heap.size + 1, 0, none⟩ : Addr).add j) = some u := by
  have h := World.news_of_block (cs := #[x]) (t := 3) (fr := (0, 0)) (heap_alloc_new (w.alloc o) (.cells #[x] 3))
  rw [show (w.alloc o).heap.size = w.heap.size + 1 by simp] at h
  exact h

set_option maxRecDepth 20000 in
set_option maxHeartbeats 2000000 in
theorem blocks_any {No : Nat → Prop} {w : World} {S b c : Nat} {vb : Value} {s : St} (h : Hp No w S b c vb s) (hc : c ≤ 1000000) :
    Calls Try.prog 23 #[.pointer (some ⟨S, 0, none⟩)] w fun e w' => ∃ v', e = .returned v' ∧ w'.ownsRow w.heap.size 3 1 v' (tids s.bl s.bl.length).length ((tids s.bl s.bl.length).map (Value.int .i64)) ∧ Below w.heap.size w w' := by
  have c3 := h.c3
  have hlen := h.len
  obtain ⟨i0, hi0, hz0, hz1, hz2⟩ := info_parts info3
  obtain ⟨av, cv, rfl, hcv⟩ := slice_of h.row
  have HC : Hid (∀ k, k < s.bl.length → ∃ g, av = some ⟨g, 0, none⟩ ∧ g < w.heap.size ∧ w.cell? ⟨g, k * 2, none⟩ = some (.int .i64 (s.bl.getD k (0, false)).1) ∧ w.cell? ⟨g, k * 2 + 1, none⟩ = some (.bool (s.bl.getD k (0, false)).2)) := fun k hk => by
    obtain ⟨g, cap, q⟩ := h.form (by omega)
    injection q with q1 _ q3
    subst q1 q3
    obtain ⟨d1, d0, _, _⟩ := h.cellT k hk
    rw [List.getD, List.getElem?_eq_getElem hk]
    exact ⟨g, rfl, World.block_lt_of_cell? w _ d0, d0, d1⟩
  have hm : s.bl.length ≤ 1000000 := by omega
  have HT : Hid (∀ k, tids s.bl (k + 1) = tids s.bl k ++ (if (s.bl.getD k (0, false)).2 = true then [(k : Int) + 1] else [])) := fun k => tids_succ s.bl k
  have HN : Hid (∀ k, (tids s.bl k).length ≤ k) := fun k => tids_len s.bl k
  clear h hlen
  obtain ⟨m, hm2⟩ : ∃ m, s.bl.length = m := ⟨_, rfl⟩
  rw [hm2] at c3 hcv HC hm ⊢
  clear hm2
  go_enter Try.func23, Try.ntmps23
  go_wp2_with fail
  go_loopw [3, 13] (fun u i wr => ∃ k : Nat, i = .int .i64 k ∧ k ≤ m ∧ ∃ au cu n, u = .slice au n cu ∧ n ≤ k ∧ Hid (n = (tids s.bl k).length ∧ wr.ownsRow w.heap.size 3 1 (.slice au n cu) n ((tids s.bl k).map (Value.int .i64))) ∧ Below w.heap.size w wr) (fun _ i _ => m - (intOf i).toNat)
  case atStart => exact ⟨0, rfl, by omega, none, 0, 0, rfl, by omega, ⟨rfl, World.ownsRow_nil _ _ _ _⟩, Below.refl _ _⟩
  case round =>
    obtain ⟨k, rfl, hk, au, cu, n, rfl, hnk, HO, hb⟩ := hrel
    by_cases hlt : k < m
    · have hlt' : (k : Int) < (m : Int) := by omega
      obtain ⟨g, rfl, hg, q0, q1⟩ := HC.out k hlt
      have d0 := (hb.cell (by exact hg)).trans q0
      have d1 := (hb.cell (by exact hg)).trans q1
      have hbs := hb.size
      have HT2 : Hid _ := HT.out k
      clear q0 q1 HC HT
      generalize (s.bl.getD k (0, false)).1 = x at *
      generalize (s.bl.getD k (0, false)).2 = t at *
      have lg : g < wr.heap.size := by omega
      have HR : Hid (wr.ownsRow w.heap.size 3 1 (.slice au n cu) n ((tids s.bl k).map (Value.int .i64))) := HO.out.2
      have HL : Hid (n = (tids s.bl k).length) := HO.out.1
      clear HO
      cases t with
      | false =>
        rw [if_neg (by simp), List.append_nil] at HT2
        go_wp2_with fail
        go_roundw
        case rel => exact ⟨k + 1, by go_num, by omega, au, cu, n, rfl, by omega, ⟨by rw [HT2.out]; exact HL.out, by rw [HT2.out]; exact World.ownsRow.alloc HR.out _⟩, hb.alloc hbs _⟩
        case measure => simp [intOf]; omega
      | true =>
        rw [if_pos rfl] at HT2
        go_wp2_with (at_builtin; refine wpList_append_lies _ rfl _ _ 22 rfl w.heap.size 3 i0 _ 1 8 Try.underlying22 hi0 hz0 hz1 hz2 rfl (by omega) (.slice au n cu) n ((tids s.bl k).map (Value.int .i64)) rfl (World.ownsRow.alloc (World.ownsRow.alloc HR.out _) _) ⟨wr.heap.size + 1, 0, none⟩ 1 1 [.int .i64 ((k : Int) + 1)] rfl rfl (news2 wr _ _) (by simp [Value.oneCell']) (by omega) (by unfold maxLen; omega) (by omega) (by simp; omega) (wr.heap.size + 2) (by simp) ?_; intro g1 c1 w2 hown1 hgrow1 hat1 hlt1)
        go_roundw
        case rel =>
          refine ⟨k + 1, by go_num, by omega, _, _, n + 1, rfl, by omega, ⟨by rw [HT2.out, List.length_append, ← show n = _ from HL.out]; rfl, by rw [HT2.out, List.map_append]; exact hown1⟩, ?_⟩
          exact ((hb.alloc hbs _).alloc (by simp; omega) _).grown hgrow1 (by simp; omega) (fun q e => (World.ownsRow.lt HR.out q e).1)
        case measure => simp [intOf]; omega
    · obtain rfl : k = m := by omega
      go_wp2_with fail
      go_ret
      have U := HO.out.1
      exact ⟨_, rfl, by rw [← U]; exact HO.out.2, hb⟩

end Go.Proofs.Yteknjkofmkigoab.H
