/- The walk of do: one operation, and what is to be seen behind it. -/
import Derived.Test.YteknjkofmkigoabHi
namespace Go.Proofs.Yteknjkofmkigoab.H
open Go.RowKit

theorem Inv.le_live {sp : Int} {s : St} (h : Inv sp s) (k : Nat) (hk : k < s.bl.length) (ht : (s.bl[k]'hk).2 = true) : (s.bl[k]'hk).1 ≤ s.live := by
  have := tk_mem s.bl (fun k hk => by have := h.cells k hk; omega) k hk ht
  have := h.live
  have := h.sp0
  omega
theorem give_any {No : Nat → Prop} {w : World} {S b c : Nat} {vb : Value} {s : St} {sp : Int} (h : Hp No w S b c vb s) (hc : c ≤ 1000000) (iv : Inv sp s) (id : Int) :
    Calls Try.prog 24 #[.pointer (some ⟨S, 0, none⟩), .int .i64 id] w fun e w' => e = .returned (.int .i64 (giveE s id)) ∧ (∃ v', Hp No w' S b (c + 1) v' (giveSt s id)) ∧ Keep No w w' := by
  by_cases hg : Given s id
  · obtain ⟨k, rfl⟩ : ∃ k : Nat, id = (k : Int) + 1 := ⟨id.toNat - 1, by have := hg.1; omega⟩
    have hk : k < s.bl.length := by have := hg.2.1; omega
    have ht : (s.bl[k]'hk).2 = true := by
      have := hg.2.2
      rwa [show ((k : Int) + 1).toNat - 1 = k by omega, List.getD, List.getElem?_eq_getElem hk] at this
    rw [(give_at hk ht).1]
    exact give_good h hc iv.ok k hk ht (iv.le_live k hk ht)
  · have e : giveSt s id = s := by unfold giveSt; rw [if_neg hg]
    rw [e]
    refine (give_bad h hc id hg).mono ?_
    rintro e w' ⟨rfl, rfl⟩
    exact ⟨rfl, ⟨_, h.more (Nat.le_succ _)⟩, Keep.refl _ _⟩

/-- One operation: the state behind it, its number, its error. -/
def opSt (s : St) (k n : Int) : St := if k = 1 then takeSt s n else if k = 2 then giveSt s n else spendSt s n
def opId (s : St) (k n : Int) : Int := if k = 1 then takeId s n else 0
def opE (s : St) (k n : Int) : Int := if k = 2 then giveE s n else takeE s n
def opSp (sp : Int) (s : St) (k n : Int) : Int := if k = 3 then (if takeE s n = 0 then sp + n else sp) else sp
theorem Inv.op {sp : Int} {s : St} (h : Inv sp s) (k n : Int) (hk : 1 ≤ k ∧ k ≤ 3) : Inv (opSp sp s k n) (opSt s k n) := by
  unfold opSp opSt
  by_cases h1 : k = 1
  · rw [if_pos h1, if_neg (by omega)]; exact h.take n
  · by_cases h2 : k = 2
    · rw [if_neg h1, if_pos h2, if_neg (by omega)]; exact h.give n
    · rw [if_neg h1, if_neg h2, if_pos (by omega)]; exact h.spend n

/-- Blocks that were just made are none of the heap's: three of them. -/
theorem Hp.made3 {No : Nat → Prop} {w : World} {S b c : Nat} {vb : Value} {s : St} (h : Hp No w S b c vb s) (o1 o2 o3 : Obj) : Hp (fun g => No g ∨ (w.heap.size ≤ g ∧ g < w.heap.size + 3)) (((w.alloc o1).alloc o2).alloc o3) S b c vb s := by
  refine (((h.made o1).made o2).made o3).reno (fun g q => .inl ?_)
  rcases q with q | ⟨q1, q2⟩
  · exact .inl (.inl (.inl q))
  · have e1 : (w.alloc o1).heap.size = w.heap.size + 1 := by simp
    have e2 : ((w.alloc o1).alloc o2).heap.size = w.heap.size + 2 := by simp
    rw [e1, e2]
    by_cases hg : g = w.heap.size
    · exact .inl (.inl (.inr hg))
    · by_cases hg2 : g = w.heap.size + 1
      · exact .inl (.inr hg2)
      · exact .inr (by omega)
theorem made3_cell (w : World) (c1 c2 c3 : Array Value) (t1 t2 t3 : TypeId) : (((w.alloc (.cells c1 t1)).alloc (.cells c2 t2)).alloc (.cells c3 t3)).heap[w.heap.size]? = some (.cells c1 t1) ∧
    (((w.alloc (.cells c1 t1)).alloc (.cells c2 t2)).alloc (.cells c3 t3)).heap[w.heap.size + 1]? = some (.cells c2 t2) ∧ (((w.alloc (.cells c1 t1)).alloc (.cells c2 t2)).alloc (.cells c3 t3)).heap[w.heap.size + 2]? = some (.cells c3 t3) := by
  have e1 : (w.alloc (.cells c1 t1)).heap.size = w.heap.size + 1 := by simp
  have e2 : ((w.alloc (.cells c1 t1)).alloc (.cells c2 t2)).heap.size = w.heap.size + 2 := by simp
  have a1 := heap_alloc_new w (.cells c1 t1)
  have a2 := heap_alloc_new (w.alloc (.cells c1 t1)) (.cells c2 t2)
  have a3 := heap_alloc_new ((w.alloc (.cells c1 t1)).alloc (.cells c2 t2)) (.cells c3 t3)
  rw [e1] at a2
  rw [e2] at a3
  refine ⟨?_, ?_, a3⟩
  · rw [(World.grownBy_alloc _ _ none).block _ (by rw [e2]; omega) (by simp), (World.grownBy_alloc _ _ none).block _ (by rw [e1]; omega) (by simp)]; exact a1
  · rw [(World.grownBy_alloc _ _ none).block _ (by rw [e2]; omega) (by simp)]; exact a2

theorem Hp.sets {No : Nat → Prop} {w : World} {S b c : Nat} {vb : Value} {s : St} (h : Hp No w S b c vb s) (g i : Nat) (v : Value) (hn : No g) : Hp No (w.setCell ⟨g, i, none⟩ v) S b c vb s := h.keeps (gset w g i v) hn
theorem Keep.sets {No : Nat → Prop} {w w1 : World} (h : Keep No w w1) (g i : Nat) (v : Value) (hn : ¬ No g) : Keep No w (w1.setCell ⟨g, i, none⟩ v) := h.grown (gset w1 g i v) (fun q e => by cases e; exact hn)
abbrev z4 : Array Value := #[.int .i64 0, .int .i64 0, .int .i64 0, .int .i64 0]


set_option maxRecDepth 20000 in
set_option maxHeartbeats 2000000 in
theorem do_take {No : Nat → Prop} {w : World} {S b c : Nat} {vb : Value} {s : St} {sp : Int} (h : Hp No w S b c vb s) (hc : c ≤ 1000000) (iv : Inv sp s) (n : Int) :
    Calls Try.prog 37 #[.pointer (some ⟨S, 0, none⟩), .agg #[.int .i64 1, .int .i64 n]] w fun e w' => e = .returned (.agg #[.int .i64 (takeId s n), .int .i64 (takeE s n), .int .i64 (takeSt s n).live, .int .i64 (takeSt s n).laid]) ∧ (∃ v', Hp No w' S b (c + 1) v' (takeSt s n)) ∧ Keep No w w' := by
  have h3 := h.made3 (.cells #[.int .i64 1, .int .i64 n] 56) (.cells z4 58) (.cells z4 58)
  have C := take_any h3 hc iv.ok n
  have m3 := made3_cell w #[.int .i64 1, .int .i64 n] z4 z4 56 58 58
  have k0 : Keep No w (((w.alloc (.cells #[.int .i64 1, .int .i64 n] 56)).alloc (.cells z4 58)).alloc (.cells z4 58)) := (((Keep.refl No w).alloc _).alloc _).alloc _
  have nos := h.nos
  have s3 : (((w.alloc (.cells #[.int .i64 1, .int .i64 n] 56)).alloc (.cells z4 58)).alloc (.cells z4 58)).heap.size = w.heap.size + 3 := by simp
  have HK0 : Hid _ := k0
  clear h h3 k0
  go_enter Try.func37, Try.ntmps37
  go_wp2_with fail
  refine C.mono ?_
  rintro e w2 ⟨rfl, hpx, k2⟩
  clear C
  obtain ⟨v', hp2⟩ := hpx
  obtain ⟨B, hB⟩ : ∃ B, w.heap.size = B := ⟨_, rfl⟩
  rw [hB] at hp2 k2 m3 nos s3 ⊢
  have g1 : w2.heap[B + 1]? = some (.cells z4 58) := (k2.block (B + 1) (by rw [s3]; omega) (.inr (by omega))).trans m3.2.1
  have g2 : w2.heap[B + 1 + 1]? = some (.cells z4 58) := (k2.block (B + 1 + 1) (by rw [s3]; omega) (.inr (by omega))).trans m3.2.2
  have K2 : Hid (Keep No w w2) := HK0.out.trans (k2.sub (fun g q => .inl q))
  have n2 : No (B + 1 + 1) ∨ (B ≤ B + 1 + 1 ∧ B + 1 + 1 < B + 3) := .inr (by omega)
  have n1 : No (B + 1) ∨ (B ≤ B + 1 ∧ B + 1 < B + 3) := .inr (by omega)
  have x1 : ¬ No (B + 1) := fun q => by have := nos _ q; omega
  have x2 : ¬ No (B + 1 + 1) := fun q => by have := nos _ q; omega
  have a0 : w2.cell? ⟨B + 1 + 1, 0, none⟩ = some (.int .i64 0) := cell_row g2 0
  have a1 : w2.cell? ⟨B + 1 + 1, 1, none⟩ = some (.int .i64 0) := cell_row g2 1
  have a2 : w2.cell? ⟨B + 1 + 1, 2, none⟩ = some (.int .i64 0) := cell_row g2 2
  have a3 : w2.cell? ⟨B + 1 + 1, 3, none⟩ = some (.int .i64 0) := cell_row g2 3
  have b0 : w2.cell? ⟨B + 1, 0, none⟩ = some (.int .i64 0) := cell_row g1 0
  have b1 : w2.cell? ⟨B + 1, 1, none⟩ = some (.int .i64 0) := cell_row g1 1
  have b2 : w2.cell? ⟨B + 1, 2, none⟩ = some (.int .i64 0) := cell_row g1 2
  have b3 : w2.cell? ⟨B + 1, 3, none⟩ = some (.int .i64 0) := cell_row g1 3
  have fa : ∀ i, w2.frozen? ⟨B + 1 + 1, i, none⟩ = false := fun i => free_row g2 i
  have fb : ∀ i, w2.frozen? ⟨B + 1, i, none⟩ = false := fun i => free_row g1 i
  have hp3 := ((hp2.sets (B + 1 + 1) 0 (.int .i64 (takeId s n)) n2).sets (B + 1 + 1) 1 (.int .i64 (takeE s n)) n2)
  have CL := live_any ((w2.setCell ⟨B + 1 + 1, 0, none⟩ (.int .i64 (takeId s n))).setCell ⟨B + 1 + 1, 1, none⟩ (.int .i64 (takeE s n))) S _ hp3.c1
  have CD := laid_any ((w2.setCell ⟨B + 1 + 1, 0, none⟩ (.int .i64 (takeId s n))).setCell ⟨B + 1 + 1, 1, none⟩ (.int .i64 (takeE s n))) S _ hp3.c2
  have HP : Hid _ := hp2
  have N1 : Hid _ := n1
  have N2 : Hid _ := n2
  clear hp2 hp3 g1 g2 k2 m3 nos s3 HK0 hB n1 n2
  go_wp2_with (first | (go_at_call 21; refine CL.mono ?_; rintro e w' ⟨rfl, rfl⟩) | (go_at_call 22; refine CD.mono ?_; rintro e w' ⟨rfl, rfl⟩))
  refine bodyPost_ret (v := .agg #[.int .i64 (takeId s n), .int .i64 (takeE s n), .int .i64 (takeSt s n).live, .int .i64 (takeSt s n).laid]) (by simp [results, Try.results37, go_sem, b0, b1, b2, b3]) rfl ⟨rfl, ⟨v', ?_⟩, ?_⟩
  · refine Hp.reno (No := fun g => No g ∨ (B ≤ g ∧ g < B + 3)) ?_ (fun g q => .inl (.inl q))
    iterate 8 (refine Hp.sets ?_ _ _ _ (by first | exact N1.out | exact N2.out))
    exact HP.out
  · iterate 8 (refine Keep.sets ?_ _ _ _ (by first | exact x1 | exact x2))
    exact K2.out

set_option maxRecDepth 20000 in
set_option maxHeartbeats 2000000 in
theorem do_give {No : Nat → Prop} {w : World} {S b c : Nat} {vb : Value} {s : St} {sp : Int} (h : Hp No w S b c vb s) (hc : c ≤ 1000000) (iv : Inv sp s) (n : Int) :
    Calls Try.prog 37 #[.pointer (some ⟨S, 0, none⟩), .agg #[.int .i64 2, .int .i64 n]] w fun e w' => e = .returned (.agg #[.int .i64 0, .int .i64 (giveE s n), .int .i64 (giveSt s n).live, .int .i64 (giveSt s n).laid]) ∧ (∃ v', Hp No w' S b (c + 1) v' (giveSt s n)) ∧ Keep No w w' := by
  have h3 := h.made3 (.cells #[.int .i64 2, .int .i64 n] 56) (.cells z4 58) (.cells z4 58)
  have C := give_any h3 hc iv n
  have m3 := made3_cell w #[.int .i64 2, .int .i64 n] z4 z4 56 58 58
  have k0 : Keep No w (((w.alloc (.cells #[.int .i64 2, .int .i64 n] 56)).alloc (.cells z4 58)).alloc (.cells z4 58)) := (((Keep.refl No w).alloc _).alloc _).alloc _
  have nos := h.nos
  have s3 : (((w.alloc (.cells #[.int .i64 2, .int .i64 n] 56)).alloc (.cells z4 58)).alloc (.cells z4 58)).heap.size = w.heap.size + 3 := by simp
  have HK0 : Hid _ := k0
  clear h h3 k0
  go_enter Try.func37, Try.ntmps37
  go_wp2_with fail
  refine C.mono ?_
  rintro e w2 ⟨rfl, hpx, k2⟩
  clear C
  obtain ⟨v', hp2⟩ := hpx
  obtain ⟨B, hB⟩ : ∃ B, w.heap.size = B := ⟨_, rfl⟩
  rw [hB] at hp2 k2 m3 nos s3 ⊢
  have g1 : w2.heap[B + 1]? = some (.cells z4 58) := (k2.block (B + 1) (by rw [s3]; omega) (.inr (by omega))).trans m3.2.1
  have g2 : w2.heap[B + 1 + 1]? = some (.cells z4 58) := (k2.block (B + 1 + 1) (by rw [s3]; omega) (.inr (by omega))).trans m3.2.2
  have K2 : Hid (Keep No w w2) := HK0.out.trans (k2.sub (fun g q => .inl q))
  have n2 : No (B + 1 + 1) ∨ (B ≤ B + 1 + 1 ∧ B + 1 + 1 < B + 3) := .inr (by omega)
  have n1 : No (B + 1) ∨ (B ≤ B + 1 ∧ B + 1 < B + 3) := .inr (by omega)
  have x1 : ¬ No (B + 1) := fun q => by have := nos _ q; omega
  have x2 : ¬ No (B + 1 + 1) := fun q => by have := nos _ q; omega
  have a0 : w2.cell? ⟨B + 1 + 1, 0, none⟩ = some (.int .i64 0) := cell_row g2 0
  have a1 : w2.cell? ⟨B + 1 + 1, 1, none⟩ = some (.int .i64 0) := cell_row g2 1
  have a2 : w2.cell? ⟨B + 1 + 1, 2, none⟩ = some (.int .i64 0) := cell_row g2 2
  have a3 : w2.cell? ⟨B + 1 + 1, 3, none⟩ = some (.int .i64 0) := cell_row g2 3
  have b0 : w2.cell? ⟨B + 1, 0, none⟩ = some (.int .i64 0) := cell_row g1 0
  have b1 : w2.cell? ⟨B + 1, 1, none⟩ = some (.int .i64 0) := cell_row g1 1
  have b2 : w2.cell? ⟨B + 1, 2, none⟩ = some (.int .i64 0) := cell_row g1 2
  have b3 : w2.cell? ⟨B + 1, 3, none⟩ = some (.int .i64 0) := cell_row g1 3
  have fa : ∀ i, w2.frozen? ⟨B + 1 + 1, i, none⟩ = false := fun i => free_row g2 i
  have fb : ∀ i, w2.frozen? ⟨B + 1, i, none⟩ = false := fun i => free_row g1 i
  have hp3 := (hp2.sets (B + 1 + 1) 1 (.int .i64 (giveE s n)) n2)
  have CL := live_any (w2.setCell ⟨B + 1 + 1, 1, none⟩ (.int .i64 (giveE s n))) S _ hp3.c1
  have CD := laid_any (w2.setCell ⟨B + 1 + 1, 1, none⟩ (.int .i64 (giveE s n))) S _ hp3.c2
  have HP : Hid _ := hp2
  have N1 : Hid _ := n1
  have N2 : Hid _ := n2
  clear hp2 hp3 g1 g2 k2 m3 nos s3 HK0 hB n1 n2
  go_wp2_with (first | (go_at_call 21; refine CL.mono ?_; rintro e w' ⟨rfl, rfl⟩) | (go_at_call 22; refine CD.mono ?_; rintro e w' ⟨rfl, rfl⟩))
  refine bodyPost_ret (v := .agg #[.int .i64 0, .int .i64 (giveE s n), .int .i64 (giveSt s n).live, .int .i64 (giveSt s n).laid]) (by simp [results, Try.results37, go_sem, b0, b1, b2, b3]) rfl ⟨rfl, ⟨v', ?_⟩, ?_⟩
  · refine Hp.reno (No := fun g => No g ∨ (B ≤ g ∧ g < B + 3)) ?_ (fun g q => .inl (.inl q))
    iterate 7 (refine Hp.sets ?_ _ _ _ (by first | exact N1.out | exact N2.out))
    exact HP.out
  · iterate 7 (refine Keep.sets ?_ _ _ _ (by first | exact x1 | exact x2))
    exact K2.out

set_option maxRecDepth 20000 in
set_option maxHeartbeats 2000000 in
theorem do_spend {No : Nat → Prop} {w : World} {S b c : Nat} {vb : Value} {s : St} {sp : Int} (h : Hp No w S b c vb s) (_hc : c ≤ 1000000) (iv : Inv sp s) (n : Int) :
    Calls Try.prog 37 #[.pointer (some ⟨S, 0, none⟩), .agg #[.int .i64 3, .int .i64 n]] w fun e w' => e = .returned (.agg #[.int .i64 0, .int .i64 (takeE s n), .int .i64 (spendSt s n).live, .int .i64 (spendSt s n).laid]) ∧ (∃ v', Hp No w' S b (c + 1) v' (spendSt s n)) ∧ Keep No w w' := by
  have h3 := h.made3 (.cells #[.int .i64 3, .int .i64 n] 56) (.cells z4 58) (.cells z4 58)
  have C := (spend_any h3 iv.ok n).mono fun e w2 (q : _ ∧ _ ∧ _) => (⟨q.1, ⟨_, q.2.1.more (Nat.le_succ _)⟩, q.2.2⟩ : _ ∧ (∃ v2, Hp _ w2 S b (c + 1) v2 (spendSt s n)) ∧ _)
  have m3 := made3_cell w #[.int .i64 3, .int .i64 n] z4 z4 56 58 58
  have k0 : Keep No w (((w.alloc (.cells #[.int .i64 3, .int .i64 n] 56)).alloc (.cells z4 58)).alloc (.cells z4 58)) := (((Keep.refl No w).alloc _).alloc _).alloc _
  have nos := h.nos
  have s3 : (((w.alloc (.cells #[.int .i64 3, .int .i64 n] 56)).alloc (.cells z4 58)).alloc (.cells z4 58)).heap.size = w.heap.size + 3 := by simp
  have HK0 : Hid _ := k0
  clear h h3 k0
  go_enter Try.func37, Try.ntmps37
  go_wp2_with fail
  refine C.mono ?_
  rintro e w2 ⟨rfl, hpx, k2⟩
  clear C
  obtain ⟨v', hp2⟩ := hpx
  obtain ⟨B, hB⟩ : ∃ B, w.heap.size = B := ⟨_, rfl⟩
  rw [hB] at hp2 k2 m3 nos s3 ⊢
  have g1 : w2.heap[B + 1]? = some (.cells z4 58) := (k2.block (B + 1) (by rw [s3]; omega) (.inr (by omega))).trans m3.2.1
  have g2 : w2.heap[B + 1 + 1]? = some (.cells z4 58) := (k2.block (B + 1 + 1) (by rw [s3]; omega) (.inr (by omega))).trans m3.2.2
  have K2 : Hid (Keep No w w2) := HK0.out.trans (k2.sub (fun g q => .inl q))
  have n2 : No (B + 1 + 1) ∨ (B ≤ B + 1 + 1 ∧ B + 1 + 1 < B + 3) := .inr (by omega)
  have n1 : No (B + 1) ∨ (B ≤ B + 1 ∧ B + 1 < B + 3) := .inr (by omega)
  have x1 : ¬ No (B + 1) := fun q => by have := nos _ q; omega
  have x2 : ¬ No (B + 1 + 1) := fun q => by have := nos _ q; omega
  have a0 : w2.cell? ⟨B + 1 + 1, 0, none⟩ = some (.int .i64 0) := cell_row g2 0
  have a1 : w2.cell? ⟨B + 1 + 1, 1, none⟩ = some (.int .i64 0) := cell_row g2 1
  have a2 : w2.cell? ⟨B + 1 + 1, 2, none⟩ = some (.int .i64 0) := cell_row g2 2
  have a3 : w2.cell? ⟨B + 1 + 1, 3, none⟩ = some (.int .i64 0) := cell_row g2 3
  have b0 : w2.cell? ⟨B + 1, 0, none⟩ = some (.int .i64 0) := cell_row g1 0
  have b1 : w2.cell? ⟨B + 1, 1, none⟩ = some (.int .i64 0) := cell_row g1 1
  have b2 : w2.cell? ⟨B + 1, 2, none⟩ = some (.int .i64 0) := cell_row g1 2
  have b3 : w2.cell? ⟨B + 1, 3, none⟩ = some (.int .i64 0) := cell_row g1 3
  have fa : ∀ i, w2.frozen? ⟨B + 1 + 1, i, none⟩ = false := fun i => free_row g2 i
  have fb : ∀ i, w2.frozen? ⟨B + 1, i, none⟩ = false := fun i => free_row g1 i
  have hp3 := (hp2.sets (B + 1 + 1) 1 (.int .i64 (takeE s n)) n2)
  have CL := live_any (w2.setCell ⟨B + 1 + 1, 1, none⟩ (.int .i64 (takeE s n))) S _ hp3.c1
  have CD := laid_any (w2.setCell ⟨B + 1 + 1, 1, none⟩ (.int .i64 (takeE s n))) S _ hp3.c2
  have HP : Hid _ := hp2
  have N1 : Hid _ := n1
  have N2 : Hid _ := n2
  clear hp2 hp3 g1 g2 k2 m3 nos s3 HK0 hB n1 n2
  go_wp2_with (first | (go_at_call 21; refine CL.mono ?_; rintro e w' ⟨rfl, rfl⟩) | (go_at_call 22; refine CD.mono ?_; rintro e w' ⟨rfl, rfl⟩))
  refine bodyPost_ret (v := .agg #[.int .i64 0, .int .i64 (takeE s n), .int .i64 (spendSt s n).live, .int .i64 (spendSt s n).laid]) (by simp [results, Try.results37, go_sem, b0, b1, b2, b3]) rfl ⟨rfl, ⟨v', ?_⟩, ?_⟩
  · refine Hp.reno (No := fun g => No g ∨ (B ≤ g ∧ g < B + 3)) ?_ (fun g q => .inl (.inl q))
    iterate 7 (refine Hp.sets ?_ _ _ _ (by first | exact N1.out | exact N2.out))
    exact HP.out
  · iterate 7 (refine Keep.sets ?_ _ _ _ (by first | exact x1 | exact x2))
    exact K2.out

theorem do_any {No : Nat → Prop} {w : World} {S b c : Nat} {vb : Value} {s : St} {sp : Int} (h : Hp No w S b c vb s) (hc : c ≤ 1000000) (iv : Inv sp s) (k n : Int) (hk : 1 ≤ k ∧ k ≤ 3) :
    Calls Try.prog 37 #[.pointer (some ⟨S, 0, none⟩), .agg #[.int .i64 k, .int .i64 n]] w fun e w' => e = .returned (.agg #[.int .i64 (opId s k n), .int .i64 (opE s k n), .int .i64 (opSt s k n).live, .int .i64 (opSt s k n).laid]) ∧ (∃ v', Hp No w' S b (c + 1) v' (opSt s k n)) ∧ Keep No w w' := by
  unfold opId opE opSt
  by_cases h1 : k = 1
  · subst h1
    exact do_take h hc iv n
  · by_cases h2 : k = 2
    · subst h2
      exact do_give h hc iv n
    · obtain rfl : k = 3 := by omega
      exact do_spend h hc iv n

end Go.Proofs.Yteknjkofmkigoab.H
