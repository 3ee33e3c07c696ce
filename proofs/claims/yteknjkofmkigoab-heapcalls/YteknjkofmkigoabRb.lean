/- The walk of the reference's Blocks; how the two heaps stand to each other. -/
import Derived.Test.YteknjkofmkigoabRt
namespace Go.Proofs.Yteknjkofmkigoab.H
open Go.RowKit

/-- The numbers of the blocks that are taken, of the first k. -/
def rids (l : List (Int × Int)) : Nat → List Int
  | 0 => []
  | k + 1 => rids l k ++ (if (l.getD k (0, 0)).2 = 0 then [(k : Int) + 1] else [])
theorem rids_len (l : List (Int × Int)) (k : Nat) : (rids l k).length ≤ k := by
  induction k with
  | zero => simp [rids]
  | succ k ih =>
    simp only [rids, List.length_append]
    split <;> simp <;> omega

set_option maxRecDepth 20000 in
set_option maxHeartbeats 1000000 in
theorem rblocks_any {No : Nat → Prop} {w : World} {S c : Nat} {va : Value} {r : Rs} (h : Rp No w S c va r) (hc : c ≤ 1000000) :
    Calls Try.prog 30 #[.pointer (some ⟨S, 0, none⟩)] w fun e w' => ∃ v', e = .returned v' ∧ w'.ownsRow w.heap.size 3 1 v' (rids r.all r.all.length).length ((rids r.all r.all.length).map (Value.int .i64)) ∧ Below w.heap.size w w' := by
  have c3 := h.c3
  have lS := h.apart.2
  have hlen := h.len
  obtain ⟨i0, hi0, hz0, hz1, hz2⟩ := info_parts info3
  obtain ⟨a, cap, rfl, hcap, hcl⟩ := h.cells
  have HC : Hid _ := hcl
  have HT : Hid (∀ k, rids r.all (k + 1) = rids r.all k ++ (if (r.all.getD k (0, 0)).2 = 0 then [(k : Int) + 1] else [])) := fun k => rfl
  clear h hcl
  obtain ⟨L, hL⟩ : ∃ L, r.all.length = L := ⟨_, rfl⟩
  rw [hL] at HC c3 hcap hlen ⊢
  clear hL
  go_enter Try.func30, Try.ntmps30
  go_wp2_with fail
  go_loopw [3, 4] (fun u i wr => ∃ k : Nat, i = .int .i64 k ∧ k ≤ L ∧ ∃ au cu n, u = .slice au n cu ∧ n ≤ k ∧ Hid (n = (rids r.all k).length ∧ wr.ownsRow w.heap.size 3 1 (.slice au n cu) n ((rids r.all k).map (Value.int .i64))) ∧ Below w.heap.size w wr) (fun _ i _ => L - (intOf i).toNat)
  case atStart => exact ⟨0, rfl, by omega, none, 0, 0, rfl, by omega, ⟨rfl, World.ownsRow_nil _ _ _ _⟩, Below.refl _ _⟩
  case round =>
    obtain ⟨k, rfl, hk, au, cu, n, rfl, hnk, HO, hb⟩ := hrel
    have cr := (hb.cell (by exact lS)).trans c3
    have hbs := hb.size
    by_cases hlt : k < L
    · have hlt' : (k : Int) < (L : Int) := by omega
      obtain ⟨g, rfl, _, q0, q1, _⟩ := HC.out k hlt
      have hg := World.block_lt_of_cell? w _ q0
      have d0 := (hb.cell (by exact hg)).trans q0
      have d1 := (hb.cell (by exact hg)).trans q1
      have HT2 : Hid _ := HT.out k
      have HR : Hid (wr.ownsRow w.heap.size 3 1 (.slice au n cu) n ((rids r.all k).map (Value.int .i64))) := HO.out.2
      have HL : Hid (n = (rids r.all k).length) := HO.out.1
      clear q0 q1 HC HT HO
      generalize (r.all.getD k (0, 0)).1 = x at *
      generalize (r.all.getD k (0, 0)).2 = y at *
      by_cases hy : y = 0
      · subst hy
        rw [if_pos rfl] at HT2
        go_wp2_with (at_builtin; refine wpList_append_lies _ rfl _ _ 22 rfl w.heap.size 3 i0 _ 1 8 Try.underlying22 hi0 hz0 hz1 hz2 rfl (by omega) (.slice au n cu) n ((rids r.all k).map (Value.int .i64)) rfl (World.ownsRow.alloc HR.out _) ⟨wr.heap.size, 0, none⟩ 1 1 [.int .i64 ((k : Int) + 1)] rfl rfl (World.news_of_block (cs := #[.int .i64 ((k : Int) + 1)]) (t := 3) (fr := (0, 0)) (heap_alloc_new wr _)) (by simp [Value.oneCell']) (by omega) (by unfold maxLen; omega) (by omega) (by simp; omega) (wr.heap.size + 1) (by simp) ?_; intro g1 c1 w2 hown1 hgrow1 hat1 hlt1)
        go_roundw
        case rel =>
          refine ⟨k + 1, by go_num, by omega, _, _, n + 1, rfl, by omega, ⟨by rw [HT2.out, List.length_append, ← show n = _ from HL.out]; rfl, by rw [HT2.out, List.map_append]; exact hown1⟩, ?_⟩
          exact (hb.alloc hbs _).grown hgrow1 (by simp; omega) (fun q e => (World.ownsRow.lt HR.out q e).1)
        case measure => simp [intOf]; omega
      · rw [if_neg hy, List.append_nil] at HT2
        have hy' : (y == 0) = false := by simpa using hy
        go_wp2_with fail
        go_roundw
        case rel => exact ⟨k + 1, by go_num, by omega, au, cu, n, rfl, by omega, ⟨by rw [HT2.out]; exact HL.out, by rw [HT2.out]; exact HR.out⟩, hb⟩
        case measure => simp [intOf]; omega
    · obtain rfl : k = L := by omega
      go_wp2_with fail
      go_ret
      have U := HO.out.1
      exact ⟨_, rfl, by rw [← U]; exact HO.out.2, hb⟩
end Go.Proofs.Yteknjkofmkigoab.H
