/- The walk of Give. -/
import Derived.Test.YtpmmploedkbeoaaGreatDoorCg06
import Derived.Deep.RegionHeld3
import Derived.Test.YtpmmploedkbeoaaGreatDoorCg04
import Derived.Deep.AppendLies
import Derived.Deep.CutBlock
import Derived.Deep.RegionWith
namespace Go.Proofs.YtpmmploedkbeoaaGreatDoor.H
open Go.RowKit

/-- The block number id is taken. -/
def Given (s : St) (id : Int) : Prop := 1 ≤ id ∧ id ≤ (s.bl.length : Int) ∧ (s.bl.getD (id.toNat - 1) (0, false)).2 = true
instance (s : St) (id : Int) : Decidable (Given s id) := inferInstanceAs (Decidable (_ ∧ _ ∧ _))
def giveE (s : St) (id : Int) : Int := if id = 0 then 0 else if Given s id then 0 else 1
def cellsOf (s : St) (id : Int) : Int := (s.bl.getD (id.toNat - 1) (0, false)).1
def giveSt (s : St) (id : Int) : St :=
  if Given s id then { s with live := s.live - cellsOf s id, bl := setT s.bl (id.toNat - 1) false, R := upd s.R (cellsOf s id) (s.R (cellsOf s id) ++ [id]) } else s
theorem give_at {s : St} {k : Nat} (hk : k < s.bl.length) (ht : (s.bl[k]'hk).2 = true) : giveE s ((k : Int) + 1) = 0 ∧ giveSt s ((k : Int) + 1) = { s with live := s.live - (s.bl[k]'hk).1, bl := setT s.bl k false, R := upd s.R (s.bl[k]'hk).1 (s.R (s.bl[k]'hk).1 ++ [(k : Int) + 1]) } := by
  have e : ((k : Int) + 1).toNat - 1 = k := by omega
  have e2 : s.bl.getD k (0, false) = s.bl[k]'hk := by rw [List.getD, List.getElem?_eq_getElem hk]; rfl
  have hg : Given s ((k : Int) + 1) := ⟨by omega, by omega, by rw [e, e2]; exact ht⟩
  refine ⟨?_, ?_⟩
  · unfold giveE; rw [if_neg (by omega), if_pos hg]
  · unfold giveSt cellsOf; rw [if_pos hg, e, e2]
theorem give_not {s : St} {k : Nat} (hk : k < s.bl.length) (ht : (s.bl[k]'hk).2 = false) : giveE s ((k : Int) + 1) = 1 ∧ giveSt s ((k : Int) + 1) = s := by
  have e : ((k : Int) + 1).toNat - 1 = k := by omega
  have e2 : s.bl.getD k (0, false) = s.bl[k]'hk := by rw [List.getD, List.getElem?_eq_getElem hk]; rfl
  have hg : ¬ Given s ((k : Int) + 1) := fun q => by have := q.2.2; rw [e, e2, ht] at this; cases this
  refine ⟨?_, ?_⟩
  · unfold giveE; rw [if_neg (by omega), if_neg hg]
  · unfold giveSt; rw [if_neg hg]
theorem give_out {s : St} {id : Int} (h : id < 0 ∨ (s.bl.length : Int) < id) : giveE s id = 1 ∧ giveSt s id = s := by
  have hg : ¬ Given s id := fun q => by have := q.1; have := q.2.1; omega
  refine ⟨?_, ?_⟩
  · unfold giveE; rw [if_neg (by omega), if_neg hg]
  · unfold giveSt; rw [if_neg hg]
theorem give_zero (s : St) : giveE s 0 = 0 ∧ giveSt s 0 = s := by
  have hg : ¬ Given s 0 := fun q => by have := q.1; omega
  refine ⟨rfl, ?_⟩
  unfold giveSt; rw [if_neg hg]

set_option maxRecDepth 20000 in
set_option maxHeartbeats 1000000 in
theorem give_bad {No : Nat → Prop} {w : World} {S b c : Nat} {vb : Value} {s : St} (h : Hp No w S b c vb s) (hc : c ≤ 1000000) (id : Int) (hid : ¬ Given s id) :
    Calls Tryz.prog 101 #[.pointer (some ⟨S, 0, none⟩), .int .i64 id] w fun e w' => e = .returned (.int .i64 (giveE s id)) ∧ w' = w := by
  have c3 := h.c3
  have hlen := h.len
  by_cases h0 : id = 0
  · subst h0
    rw [(give_zero s).1]
    clear h c3 hid
    go_enter Tryz.func101, Tryz.ntmps101
    go_wp2_with fail
    go_ret
    exact ⟨rfl, rfl⟩
  · have h0' : (id == 0) = false := by simpa using h0
    by_cases h1 : id < 0
    · rw [(give_out (.inl h1)).1]
      clear h c3 hid
      go_enter Tryz.func101, Tryz.ntmps101
      go_wp2_with fail
      go_ret
      exact ⟨rfl, rfl⟩
    · by_cases h2 : (s.bl.length : Int) < id
      · rw [(give_out (.inr h2)).1]
        obtain ⟨a, cap, rfl, _⟩ := slice_of h.row
        clear h hid
        generalize s.bl.length = m at *
        go_enter Tryz.func101, Tryz.ntmps101
        go_wp2_with fail
        go_ret
        exact ⟨rfl, rfl⟩
      · obtain ⟨k, rfl⟩ : ∃ k : Nat, id = (k : Int) + 1 := ⟨id.toNat - 1, by omega⟩
        have hk : k < s.bl.length := by omega
        have ht : (s.bl[k]'hk).2 = false := by
          cases q : (s.bl[k]'hk).2 with
          | false => rfl
          | true =>
            exact absurd ⟨by omega, by omega, by rw [show ((k : Int) + 1).toNat - 1 = k by omega, List.getD, List.getElem?_eq_getElem hk]; exact q⟩ hid
        rw [(give_not hk ht).1]
        obtain ⟨g, cap, rfl⟩ := h.form (by omega)
        obtain ⟨d1, d0, _, hcap⟩ := h.cellT k hk
        rw [ht] at d1
        clear d0
        have hkm : (k : Int) < (s.bl.length : Int) := by omega
        have hm : s.bl.length ≤ 1000000 := by omega
        clear h hid ht h2
        generalize s.bl.length = m at *
        go_enter Tryz.func101, Tryz.ntmps101
        go_wp2_with fail
        go_ret
        exact ⟨rfl, rfl⟩

theorem info3 : (Tryz.prog.info? 3).map (fun i => (i.zero, i.size, i.bytes)) = some (some (.int .i64 0), 1, 8) := by kernel_rfl

/-- The heap with another map. -/
theorem Hp.via {No : Nat → Prop} {w w2 : World} {S b c c' : Nat} {vb : Value} {s : St} (h : Hp No w S b c vb s) (R' : Int → List Int) (hr : Rdy No w2 b c' R') (hS : w2.heap[S]? = w.heap[S]?) (hrow : ∀ q, vb.ownBlock = some q → w2.heap[q]? = w.heap[q]?) (hsz : w.heap.size ≤ w2.heap.size) (hc : c ≤ c') : Hp No w2 S b c' vb { s with R := R' } := by
  refine ⟨hS.trans h.str, ⟨h.row.1, ?_⟩, hr, Nat.le_trans h.len hc, h.noS, h.nob, h.nov, fun q r => Nat.lt_of_lt_of_le (h.nos q r) hsz⟩
  rcases h.row.2 with q | ⟨g, cap, cur, q, q1, q2, q3⟩
  · exact .inl q
  · exact .inr ⟨g, cap, cur, q, q1, (hrow g (by rw [q]; rfl)).trans q2, q3⟩
/-- A list that is pushed upon: the append and the store that follows. -/
theorem Hp.push {No : Nat → Prop} {W : World} {S b c : Nat} {vb : Value} {s : St} (h : Hp No W S b c vb s) (hc : c ≤ 1000000) (x : Int) (h0 : 1 ≤ x) (h1 : x ≤ 400000) (id : Int) (hid : (Lit.int .i64 id).wf = true) :
    ∃ a cap, W.ownsInts (b + 1) 3 .i64 (.slice a (s.R x).length cap) (s.R x) ∧ (s.R x).length ≤ c ∧
      (∀ W', W'.heap[b]? = W.heap[b]? → (Instr.lookup 68 (.map (some b)) (.int .i64 x) false).run Tryz.prog W' = .ok (.slice a (s.R x).length cap) W') ∧
      some S ≠ (Value.slice a (s.R x).length cap).ownBlock ∧ (∀ q, vb.ownBlock = some q → some q ≠ (Value.slice a (s.R x).length cap).ownBlock) ∧
      ∀ w1 gg cap2, W.grownBy w1 (Value.slice a (s.R x).length cap).ownBlock → w1.ownsRow (b + 1) 3 1 (.slice (some ⟨gg, 0, none⟩) ((s.R x).length + 1) cap2) ((s.R x).length + 1) ((s.R x).map (Value.int .i64) ++ [.int .i64 id]) → ((Value.slice a (s.R x).length cap).ownBlock = some gg ∨ gg = W.heap.size + 1) →
        ∃ w2, (Instr.mapUpdate 68 (.map (some b)) (.int .i64 x) (.slice (some ⟨gg, 0, none⟩) ((s.R x).length + 1) cap2)).run Tryz.prog w1 = .ok () w2 ∧ w1.grownBy w2 (some b) ∧ Hp No w2 S b (c + 1) vb { s with R := upd s.R x (s.R x ++ [id]) } ∧ Keep No W w2 := by
  have hw := wf_of (k := x) (by omega) (by omega)
  obtain ⟨v, hl, ho, hlen, hno, hback⟩ := h.rdy.look (by unfold maxLen; omega) x hw
  obtain ⟨a1, a2, a3, a4, lS, lb⟩ := h.apart
  have hty : ∀ q, v.ownBlock = some q → ∃ cur, W.heap[q]? = some (.cells cur 3 (0, 0)) := fun q e => by
    rcases ho.1.2 with ⟨e1, _⟩ | ⟨g', cap', cur, e1, _, hh, _⟩
    · rw [e1] at e; cases e
    · rw [e1] at e
      injection e with e
      subst e
      exact ⟨cur, hh⟩
  have nS : some S ≠ v.ownBlock := fun e => by
    obtain ⟨cur, q⟩ := hty S e.symm
    rw [h.str] at q
    injection q with q
    injection q with _ q _
    cases q
  have nv : ∀ q, vb.ownBlock = some q → some q ≠ v.ownBlock := fun q e e2 => by
    obtain ⟨cur, q1⟩ := hty q e2.symm
    obtain ⟨cur2, q2⟩ := a4 q e
    rw [q1] at q2
    injection q2 with q2
    injection q2 with _ q2 _
    cases q2
  obtain ⟨a, cap, rfl, _⟩ := slice_of ho.1
  refine ⟨a, cap, ho, hlen, fun W' hb' => h.rdy.far hw hl hb', nS, nv, fun w1 gg cap2 hg hown hat => ?_⟩
  obtain ⟨w2, hu, hr2, hg2⟩ := hback w1 _ (s.R x ++ [id]) hg (ho.appended hown hid) (by simp; omega) (by
    rcases hat with q | q
    · exact .inl q.symm
    · exact .inr ⟨gg, rfl, by omega⟩) (fun q e r => by
    injection e with e
    subst e
    rcases hat with q | q
    · exact hno _ q r
    · have := h.nos _ r
      simp only at this
      omega)
  have hs := hg.size
  refine ⟨w2, hu, hg2, h.via _ hr2 ?_ (fun q e => ?_) (Nat.le_trans hg.size hg2.size) (Nat.le_succ _), ((Keep.refl No W).grown hg hno).grown hg2 (fun q e => by cases e; exact h.nob)⟩
  · exact (hg2.block S (by omega) (fun e => a1 (by injection e))).trans (hg.block S lS nS)
  · have lq := (h.row.lt q e).2
    exact (hg2.block q (by omega) (fun e2 => a3 (by rw [e]; exact e2))).trans (hg.block q lq (nv q e))

set_option maxRecDepth 20000 in
set_option maxHeartbeats 2000000 in
theorem give_good {No : Nat → Prop} {w : World} {S b c : Nat} {vb : Value} {s : St} (h : Hp No w S b c vb s) (hc : c ≤ 1000000) (ok : Ok s) (k : Nat) (hk : k < s.bl.length) (ht : (s.bl[k]'hk).2 = true) (hcl : (s.bl[k]'hk).1 ≤ s.live) :
    Calls Tryz.prog 101 #[.pointer (some ⟨S, 0, none⟩), .int .i64 ((k : Int) + 1)] w fun e w' => e = .returned (.int .i64 0) ∧ (∃ v', Hp No w' S b (c + 1) v' (giveSt s ((k : Int) + 1))) ∧ Keep No w w' := by
  have hlen := h.len
  have c3 := h.c3
  have c1 := h.c1
  have f1 := h.fr 1
  have hl0 := ok.l0
  have hl1 := ok.l1
  have hl2 := ok.l2
  obtain ⟨hx0, hx1⟩ := ok.cells k hk
  rw [(give_at hk ht).2]
  obtain ⟨g, cap, rfl⟩ := h.form (by omega)
  obtain ⟨d1, d0, fz, hcap⟩ := h.cellT k hk
  rw [ht] at d1
  have fg := fz (k * 2 + 1)
  have ns := h.apart.2.1
  have hgS : g ≠ S := fun e => ns (by rw [e]; rfl)
  have h1 := ((h.setTaken k hk false).setLive (s.live - (s.bl[k]'hk).1)).drew
  have k1 : Keep No w ((w.setCell ⟨g, k * 2 + 1, none⟩ (.bool false)).setCell ⟨S, 1, none⟩ (.int .i64 (s.live - (s.bl[k]'hk).1))).drew :=
    (((Keep.refl No w).grown (gset w g _ _) (fun q e => by cases e; exact h.nov g rfl)).grown (gset _ S 1 _) (fun q e => by cases e; exact h.noS)).drew
  have hkm : (k : Int) < (s.bl.length : Int) := by omega
  have hm : s.bl.length ≤ 1000000 := by omega
  obtain ⟨x, hx⟩ : ∃ x, (s.bl[k]'hk).1 = x := ⟨_, rfl⟩
  have H1 : Hid _ := h1
  have K1 : Hid _ := k1
  rw [hx] at d0 hx0 hx1 hcl H1 K1 ⊢
  have hz : ((k : Int) + 1 == 0) = false := by simp; omega
  have hkk : IntKind.i64.wrap ((k : Int) + 1 - 1) = (k : Int) := by rw [IntKind.wrap_i64]; omega
  have E5 : Hid (((w.setCell ⟨g, k * 2 + 1, none⟩ (.bool false)).setCell ⟨S, 1, none⟩ (.int .i64 (s.live - x))).drew.cell? ⟨g, k * 2, none⟩ = some (.int .i64 x)) := by
    show ((w.setCell ⟨g, k * 2 + 1, none⟩ (.bool false)).setCell ⟨S, 1, none⟩ (.int .i64 (s.live - x))).cell? ⟨g, k * 2, none⟩ = some (.int .i64 x)
    rw [World.cell?_setCell_other _ _ _ _ (fun q => by injection q with q1 _; omega), World.cell?_setCell_other _ _ _ _ (fun q => by injection q with _ q2; omega)]
    exact d0
  clear h h1 k1 hx ns fz ok ht
  obtain ⟨m, hm2⟩ : ∃ m, s.bl.length = m := ⟨_, rfl⟩
  rw [hm2] at c3 hcap hkm hm
  go_enter Tryz.func101, Tryz.ntmps101
  go_wp2_with fail
  go_region
  obtain ⟨W, hW⟩ : ∃ W, W = ((w.setCell ⟨g, k * 2 + 1, none⟩ (.bool false)).setCell ⟨S, 1, none⟩ (.int .i64 (s.live - x))).drew := ⟨_, rfl⟩
  rw [← hW] at H1 K1 E5 ⊢
  have hP := Hp.push H1.out hc x hx0 hx1 ((k : Int) + 1) (wf_of (by omega) (by omega))
  have e4 := Hp.c4 H1.out
  have e5 := E5.out
  obtain ⟨_, _, _, _, lS, lb⟩ := Hp.apart H1.out
  have lg : g < W.heap.size := World.block_lt_of_cell? W _ e5
  simp only at hP
  obtain ⟨av, cv, ho, hlen2, hlook, nS, nv, HB0⟩ := hP
  have ng := nv g rfl
  have HB : Hid _ := HB0
  have gb : some g ≠ some b := fun e => (Hp.apart H1.out).2.2.1 (by injection e with e; rw [← e]; rfl)
  have Sb : some S ≠ some b := fun e => (Hp.apart H1.out).1 (by injection e)
  have hl1 := hlook W.drew rfl
  have hl2 := hlook (W.alloc (.cells #[.int .i64 ((k : Int) + 1)] 3)).drew ((World.grownBy_alloc W _ none).block b lb (by simp))
  obtain ⟨i0, hi0, hz0, hz1, hz2⟩ := info_parts info3
  have hlen3 : (s.R x).length ≤ 1000000 := by omega
  clear hW c1 f1 c3 d1 d0 fg E5 H1 nv hlook HB0 hlen hlen2 hm2 hk hcap hkm hm hz hkk hcl
  have HO : Hid (W.ownsRow (b + 1) 3 1 (.slice av (s.R x).length cv) (s.R x).length ((s.R x).map (Value.int .i64))) := ho.1
  clear ho
  generalize (s.R x).length = n at *
  go_wp2_with fail
  go_region_held3 (fun w' => w'.cell? ⟨S, 4, none⟩ = some (.map (some b)) ∧ w'.cell? ⟨g, k * 2, none⟩ = some (.int .i64 x))
    (first
      | (go_split_ands; refine ⟨by go_keep, by go_keep⟩)
      | (go_split_ands
         refine ⟨?_, ?_⟩
         · (rw [hgrow.cell_far _ (by simp; omega) nS]; go_keep)
         · (rw [hgrow.cell_far _ (by simp; omega) ng]; go_keep))
      | (go_split_ands
         refine ⟨?_, ?_⟩
         · (rw [hg2.cell_far _ (by have := hgrow.size; simp at this; simp; omega) Sb]; assumption)
         · (rw [hg2.cell_far _ (by have := hgrow.size; simp at this; simp; omega) gb]; assumption)))
    ((refine step_append_lies _ (by rfl) _ _ _ (by rfl) (b + 1) 3 i0 _ 1 8 Tryz.underlying170 hi0 hz0 hz1 hz2 rfl (by omega) (.slice av n cv) n ((s.R x).map (Value.int .i64)) (by rfl) (World.ownsRow.drew (World.ownsRow.alloc HO.out _)) ⟨W.heap.size, 0, none⟩ 1 1 [.int .i64 ((k : Int) + 1)] (by rfl) (by rfl) (World.news_of_block (cs := #[.int .i64 ((k : Int) + 1)]) (t := 3) (fr := (0, 0)) (heap_alloc_new W _)) (by simp [Value.oneCell']) (by omega) (by unfold maxLen; omega) (by omega) (by simp; omega) (W.heap.size + 1) (by simp) ?_; intro gg cap2 w1 hown1 hgrow hat hlt; obtain ⟨w2, hu, hg2, hp2, k2⟩ := HB.out w1 gg cap2 ((World.grownBy_alloc W _ _).trans ((gdrew _ _).trans hgrow)) hown1 hat))
  all_goals
    go_wp2_with fail
    go_ret
    exact ⟨rfl, ⟨_, hp2⟩, K1.out.trans k2⟩

end Go.Proofs.YtpmmploedkbeoaaGreatDoor.H

/- The walk of Blocks; a new heap. -/
namespace Go.Proofs.YtpmmploedkbeoaaGreatDoor.H
open Go.RowKit

theorem below_grown {w w' : World} (h : Below w.heap.size w w') : w.grownBy w' none := ⟨h.os, h.tape, h.output, h.size, fun i hi _ => h.block i hi⟩
theorem Keep.of_below {No : Nat → Prop} {w w' : World} (h : Below w.heap.size w w') : Keep No w w' := ⟨h.os, h.tape, h.output, h.size, fun g hg _ => h.block g hg⟩
theorem Hp.below {No : Nat → Prop} {w w' : World} {S b c : Nat} {vb : Value} {s : St} (h : Hp No w S b c vb s) (hb : Below w.heap.size w w') : Hp No w' S b c vb s := by
  obtain ⟨a1, a2, a3, a4, lS, lb⟩ := h.apart
  exact h.via s.R (h.rdy.kept (below_grown hb) (fun g e => by cases e)) (hb.block S lS) (fun q e => hb.block q (h.row.lt q e).2) hb.size (Nat.le_refl _)

/-- The numbers of the blocks that are taken, of the first k. -/
def tids (l : List (Int × Bool)) (k : Nat) : List Int := ((List.range k).filter fun i => (l.getD i (0, false)).2).map fun i : Nat => (i : Int) + 1
theorem tids_succ (l : List (Int × Bool)) (k : Nat) : tids l (k + 1) = tids l k ++ (if (l.getD k (0, false)).2 = true then [(k : Int) + 1] else []) := by
  unfold tids
  rw [List.range_succ, List.filter_append, List.map_append]
  congr 1
  cases q : (l.getD k (0, false)).2
  · rw [if_neg (by simp)]; rw [List.filter_cons_of_neg (by rw [q]; simp)]; rfl
  · rw [if_pos rfl]; rw [List.filter_cons_of_pos (by exact q)]; rfl
theorem tids_len (l : List (Int × Bool)) (k : Nat) : (tids l k).length ≤ k := by
  unfold tids
  rw [List.length_map]
  have := List.length_filter_le (fun i => (l.getD i (0, false)).2) (List.range k)
  rwa [List.length_range] at this

theorem news2 (w : World) (o : Obj) (x : Value) : ∀ j u, ([x] : List Value)[j]? = some u → ((w.alloc o).alloc (.cells #[x] 3)).cell? ((⟨w.heap.size + 1, 0, none⟩ : Addr).add j) = some u := by
  have h := World.news_of_block (cs := #[x]) (t := 3) (fr := (0, 0)) (heap_alloc_new (w.alloc o) (.cells #[x] 3))
  rw [show (w.alloc o).heap.size = w.heap.size + 1 by simp] at h
  exact h

end Go.Proofs.YtpmmploedkbeoaaGreatDoor.H

/- What holds of a heap throughout: plain facts, no program. -/
namespace Go.Proofs.YtpmmploedkbeoaaGreatDoor.H

/-- The cells of the blocks that are taken; of all blocks. -/
def tk : List (Int × Bool) → Int
  | [] => 0
  | p :: l => (if p.2 = true then p.1 else 0) + tk l
def tot : List (Int × Bool) → Int
  | [] => 0
  | p :: l => p.1 + tot l
theorem tk_app (l m : List (Int × Bool)) : tk (l ++ m) = tk l + tk m := by
  induction l with
  | nil => simp [tk]
  | cons p l ih => simp only [List.cons_append, tk, ih]; omega
theorem tot_app (l m : List (Int × Bool)) : tot (l ++ m) = tot l + tot m := by
  induction l with
  | nil => simp [tot]
  | cons p l ih => simp only [List.cons_append, tot, ih]; omega
theorem setT_get (l : List (Int × Bool)) (k j : Nat) (t : Bool) (hk : k < l.length) (hj : j < (setT l k t).length) : (setT l k t)[j] = if j = k then ((l[k]'hk).1, t) else l[j]'(by rw [setT_len] at hj; exact hj) := by
  simp only [setT_eq l k hk t]
  by_cases h : j = k
  · subst h; simp
  · rw [if_neg h, List.getElem_set_ne (fun e => h e.symm)]
theorem tk_set (l : List (Int × Bool)) (k : Nat) (t : Bool) (hk : k < l.length) : tk (setT l k t) = tk l - (if (l[k]'hk).2 = true then (l[k]'hk).1 else 0) + (if t = true then (l[k]'hk).1 else 0) := by
  rw [setT_eq l k hk t]
  induction l generalizing k with
  | nil => simp at hk
  | cons p l ih =>
    cases k with
    | zero => simp only [List.set_cons_zero, tk, List.getElem_cons_zero]; omega
    | succ k =>
      have := ih k (by simpa using hk)
      simp only [List.set_cons_succ, tk, List.getElem_cons_succ] at this ⊢
      omega
theorem tot_set (l : List (Int × Bool)) (k : Nat) (t : Bool) (hk : k < l.length) : tot (setT l k t) = tot l := by
  rw [setT_eq l k hk t]
  induction l generalizing k with
  | nil => simp at hk
  | cons p l ih =>
    cases k with
    | zero => simp only [List.set_cons_zero, tot, List.getElem_cons_zero]
    | succ k =>
      have := ih k (by simpa using hk)
      simp only [List.set_cons_succ, tot, List.getElem_cons_succ] at this ⊢
      omega
theorem tk_le (l : List (Int × Bool)) (h : ∀ k (hk : k < l.length), 0 ≤ (l[k]'hk).1) : 0 ≤ tk l ∧ tk l ≤ tot l := by
  induction l with
  | nil => simp [tk, tot]
  | cons p l ih =>
    have h1 := h 0 (by simp)
    have h2 := ih (fun k hk => by have := h (k + 1) (by simpa using hk); simpa using this)
    simp only [List.getElem_cons_zero] at h1
    simp only [tk, tot]
    split <;> omega
theorem tk_mem (l : List (Int × Bool)) (h : ∀ k (hk : k < l.length), 0 ≤ (l[k]'hk).1) (k : Nat) (hk : k < l.length) (ht : (l[k]'hk).2 = true) : (l[k]'hk).1 ≤ tk l := by
  have h1 := tk_set l k false hk
  have h2 := tk_le (setT l k false) (fun j hj => by
    rw [setT_get l k j false hk hj]
    split
    · exact h k hk
    · exact h j _)
  rw [if_pos ht, if_neg (by simp)] at h1
  omega
theorem tot_le (l : List (Int × Bool)) (h : ∀ k (hk : k < l.length), 1 ≤ (l[k]'hk).1 ∧ (l[k]'hk).1 ≤ 400000) : 0 ≤ tot l ∧ tot l ≤ l.length * 400000 := by
  induction l with
  | nil => simp [tot]
  | cons p l ih =>
    have h1 := h 0 (by simp)
    have h2 := ih (fun k hk => by have := h (k + 1) (by simpa using hk); simpa using this)
    simp only [List.getElem_cons_zero] at h1
    simp only [tot, List.length_cons]
    omega

/-- sp: what was spent. -/
structure Inv (sp : Int) (s : St) : Prop where
  sp0 : 0 ≤ sp
  live : s.live = sp + tk s.bl
  laid : s.laid = tot s.bl
  l1 : s.live ≤ s.lim
  l2 : s.lim ≤ 400000
  cells : ∀ k (h : k < s.bl.length), 1 ≤ (s.bl[k]'h).1 ∧ (s.bl[k]'h).1 ≤ 400000
  ids : ∀ n x, x ∈ s.R n → ∃ k : Nat, x = (k : Int) + 1 ∧ ∃ h : k < s.bl.length, s.bl[k]'h = (n, false)
  all : ∀ n (k : Nat) (h : k < s.bl.length), s.bl[k]'h = (n, false) → (k : Int) + 1 ∈ s.R n
  nodup : ∀ n, (s.R n).Nodup
theorem Inv.ok {sp : Int} {s : St} (h : Inv sp s) : Ok s := by
  have h1 := tk_le s.bl (fun k hk => by have := h.cells k hk; omega)
  have h2 := tot_le s.bl h.cells
  have := h.sp0
  have := h.live
  have := h.laid
  exact ⟨by omega, h.l1, h.l2, by omega, by omega, h.ids, h.nodup, h.cells⟩

theorem Inv.take {sp : Int} {s : St} (h : Inv sp s) (n : Int) : Inv sp (takeSt s n) := by
  by_cases hn : n < 0 ∨ s.lim - s.live < n ∨ n = 0
  · have e1 : takeSt s n = s := by
      unfold takeSt
      by_cases h0 : n < 0
      · rw [if_pos h0]
      · by_cases h1 : s.lim - s.live < n
        · rw [if_neg h0, if_pos h1]
        · rw [if_neg h0, if_neg h1, if_pos (by omega)]
    rw [e1]; exact h
  · have h0 : 1 ≤ n := by omega
    have h1 : n ≤ s.lim - s.live := by omega
    have hl := h.live
    have hl2 := h.l2
    have hsp := h.sp0
    have htk := tk_le s.bl (fun k hk => by have := h.cells k hk; omega)
    rcases List.eq_nil_or_concat (s.R n) with hR | ⟨zs, x, hR⟩
    · rw [(take_new h0 h1 hR).1]
      have hget : ∀ (j : Nat) (hj : j < (s.bl ++ [(n, true)]).length), (s.bl ++ [(n, true)])[j] = (n, true) ∨ ∃ hj2 : j < s.bl.length, (s.bl ++ [(n, true)])[j] = s.bl[j]'hj2 := fun j hj => by
        by_cases hj2 : j < s.bl.length
        · exact .inr ⟨hj2, List.getElem_append_left hj2⟩
        · left
          rw [List.getElem_append_right (by omega)]
          simp
      refine ⟨h.sp0, ?_, ?_, ?_, h.l2, fun k hk => ?_, fun m x hx => ?_, fun m k hk e => ?_, h.nodup⟩
      · show s.live + n = sp + tk (s.bl ++ [(n, true)])
        rw [tk_app]; simp only [tk, if_true]; omega
      · show s.laid + n = tot (s.bl ++ [(n, true)])
        rw [tot_app, h.laid]; simp only [tot]; omega
      · show s.live + n ≤ s.lim
        omega
      · show 1 ≤ ((s.bl ++ [(n, true)])[k]'hk).1 ∧ ((s.bl ++ [(n, true)])[k]'hk).1 ≤ 400000
        rcases hget k hk with e | ⟨hk2, e⟩
        · rw [e]; exact ⟨h0, by show n ≤ 400000; omega⟩
        · rw [e]; exact h.cells k hk2
      · obtain ⟨k, e, hk, hb⟩ := h.ids m x hx
        exact ⟨k, e, by simp; omega, by show (s.bl ++ [(n, true)])[k]'_ = _; rw [List.getElem_append_left hk]; exact hb⟩
      · rcases hget k hk with e2 | ⟨hk2, e2⟩
        · have e3 : (n, true) = (m, false) := e2.symm.trans e
          cases e3
        · exact h.all m k hk2 (e2.symm.trans e)
    · rw [List.concat_eq_append] at hR
      obtain ⟨k, rfl, hk, hbk⟩ := h.ids n x (by rw [hR]; simp)
      rw [(take_old h0 h1 hR).1]
      have hnd := h.nodup n
      rw [hR, List.nodup_append] at hnd
      have hne : ∀ j : Nat, (j : Int) + 1 ∈ zs → j ≠ k := fun j hj e => hnd.2.2 _ hj _ (List.mem_singleton.2 rfl) (by rw [e])
      have htk2 := tk_set s.bl k true hk
      rw [hbk] at htk2
      simp only [if_true, Bool.false_eq_true, if_false] at htk2
      refine ⟨h.sp0, ?_, ?_, ?_, h.l2, fun j hj => ?_, fun m x hx => ?_, fun m j hj e => ?_, fun m => ?_⟩
      · show s.live + n = sp + tk (setT s.bl k true)
        omega
      · show s.laid = tot (setT s.bl k true)
        rw [tot_set s.bl k true hk]; exact h.laid
      · show s.live + n ≤ s.lim
        omega
      · show 1 ≤ ((setT s.bl k true)[j]'hj).1 ∧ ((setT s.bl k true)[j]'hj).1 ≤ 400000
        rw [setT_get s.bl k j true hk hj]
        split
        · exact h.cells k hk
        · exact h.cells j _
      · have hx2 : x ∈ (if m = n then zs else s.R m) := hx
        have hj0 : ∃ j : Nat, x = (j : Int) + 1 ∧ j ≠ k ∧ ∃ hj : j < s.bl.length, s.bl[j]'hj = (m, false) := by
          by_cases hm : m = n
          · rw [if_pos hm] at hx2
            obtain ⟨j, e, hj, hb⟩ := h.ids n x (by rw [hR]; simp [hx2])
            exact ⟨j, e, hne j (by rw [← e]; exact hx2), hj, by rw [hm]; exact hb⟩
          · rw [if_neg hm] at hx2
            obtain ⟨j, e, hj, hb⟩ := h.ids m x hx2
            refine ⟨j, e, fun e2 => ?_, hj, hb⟩
            subst e2
            rw [hbk] at hb
            injection hb with hb
            exact hm hb.symm
        obtain ⟨j, e, hjk, hj, hb⟩ := hj0
        exact ⟨j, e, by show j < (setT s.bl k true).length; rw [setT_len]; exact hj, by show (setT s.bl k true)[j]'_ = _; rw [setT_get s.bl k j true hk, if_neg hjk]; exact hb⟩
      · have e2 : (setT s.bl k true)[j]'hj = (m, false) := e
        rw [setT_get s.bl k j true hk hj] at e2
        by_cases hjk : j = k
        · rw [if_pos hjk] at e2; injection e2 with _ e3; cases e3
        · rw [if_neg hjk] at e2
          have hm2 := h.all m j (by have := hj; simp only [setT_len] at this; exact this) e2
          show (j : Int) + 1 ∈ (if m = n then zs else s.R m)
          by_cases hm : m = n
          · rw [if_pos hm]
            rw [hm, hR] at hm2
            rcases List.mem_append.1 hm2 with q | q
            · exact q
            · simp at q; omega
          · rw [if_neg hm]; exact hm2
      · show (if m = n then zs else s.R m).Nodup
        by_cases hm : m = n
        · rw [if_pos hm]; exact hnd.1
        · rw [if_neg hm]; exact h.nodup m

theorem Inv.give {sp : Int} {s : St} (h : Inv sp s) (id : Int) : Inv sp (giveSt s id) := by
  by_cases hg : Given s id
  · obtain ⟨k, rfl⟩ : ∃ k : Nat, id = (k : Int) + 1 := ⟨id.toNat - 1, by have := hg.1; omega⟩
    have hk : k < s.bl.length := by have := hg.2.1; omega
    have ht : (s.bl[k]'hk).2 = true := by
      have := hg.2.2
      rwa [show ((k : Int) + 1).toNat - 1 = k by omega, List.getD, List.getElem?_eq_getElem hk] at this
    rw [(give_at hk ht).2]
    obtain ⟨x, hx⟩ : ∃ x, (s.bl[k]'hk).1 = x := ⟨_, rfl⟩
    have hb : s.bl[k]'hk = (x, true) := Prod.ext hx ht
    rw [hx]
    have htk2 := tk_set s.bl k false hk
    rw [hb] at htk2
    simp only [if_true, Bool.false_eq_true, if_false] at htk2
    have hl := h.live
    have hl1 := h.l1
    have hxc := h.cells k hk
    rw [hb] at hxc
    have hget : ∀ j (hj : j < s.bl.length), j ≠ k → (setT s.bl k false)[j]'(by rw [setT_len]; exact hj) = s.bl[j]'hj := fun j hj hjk => by rw [setT_get s.bl k j false hk, if_neg hjk]
    have hgk : (setT s.bl k false)[k]'(by rw [setT_len]; exact hk) = (x, false) := by rw [setT_get s.bl k k false hk, if_pos rfl, hx]
    have hnot : ∀ n, (k : Int) + 1 ∉ s.R n := fun n q => by
      obtain ⟨j, e, hj, hb2⟩ := h.ids n _ q
      have : j = k := by omega
      subst this
      rw [hb] at hb2
      injection hb2 with _ hb2
      cases hb2
    refine ⟨h.sp0, ?_, ?_, ?_, h.l2, fun j hj => ?_, fun m y hy => ?_, fun m j hj e => ?_, fun m => ?_⟩
    · show s.live - x = sp + tk (setT s.bl k false)
      omega
    · show s.laid = tot (setT s.bl k false)
      rw [tot_set s.bl k false hk]; exact h.laid
    · show s.live - x ≤ s.lim
      have := hxc.1
      simp only at this
      omega
    · show 1 ≤ ((setT s.bl k false)[j]'hj).1 ∧ ((setT s.bl k false)[j]'hj).1 ≤ 400000
      rw [setT_get s.bl k j false hk hj]
      split
      · exact h.cells k hk
      · exact h.cells j _
    · have hy2 : y ∈ (if m = x then s.R x ++ [(k : Int) + 1] else s.R m) := hy
      have hc : y ∈ s.R m ∨ (m = x ∧ y = (k : Int) + 1) := by
        by_cases hm : m = x
        · rw [if_pos hm] at hy2
          rcases List.mem_append.1 hy2 with q | q
          · rw [hm]; exact .inl q
          · simp at q; exact .inr ⟨hm, q⟩
        · rw [if_neg hm] at hy2; exact .inl hy2
      rcases hc with q | ⟨q1, q2⟩
      · obtain ⟨j, e, hj, hb2⟩ := h.ids m y q
        have hjk : j ≠ k := fun e2 => by subst e2; exact hnot m (by rw [← e]; exact q)
        exact ⟨j, e, by show j < (setT s.bl k false).length; rw [setT_len]; exact hj, (hget j hj hjk).trans hb2⟩
      · exact ⟨k, q2, by show k < (setT s.bl k false).length; rw [setT_len]; exact hk, by rw [q1]; exact hgk⟩
    · have hj2 : j < s.bl.length := by have := hj; simp only [setT_len] at this; exact this
      show (j : Int) + 1 ∈ (if m = x then s.R x ++ [(k : Int) + 1] else s.R m)
      by_cases hjk : j = k
      · subst hjk
        have : (x, false) = (m, false) := hgk.symm.trans e
        injection this with this
        rw [if_pos this.symm]; simp
      · have := h.all m j hj2 ((hget j hj2 hjk).symm.trans e)
        by_cases hm : m = x
        · rw [if_pos hm, ← hm]; simp [this]
        · rw [if_neg hm]; exact this
    · show (if m = x then s.R x ++ [(k : Int) + 1] else s.R m).Nodup
      by_cases hm : m = x
      · rw [if_pos hm, List.nodup_append]
        refine ⟨h.nodup x, by simp, fun a ha b hb2 e => ?_⟩
        rw [List.mem_singleton.1 hb2] at e
        exact hnot x (by rw [← e]; exact ha)
      · rw [if_neg hm]; exact h.nodup m
  · unfold giveSt; rw [if_neg hg]; exact h

theorem Inv.spend {sp : Int} {s : St} (h : Inv sp s) (n : Int) : Inv (if takeE s n = 0 then sp + n else sp) (spendSt s n) := by
  unfold spendSt takeE
  by_cases h0 : n < 0
  · rw [if_pos h0, if_pos h0, if_neg (by omega)]; exact h
  · by_cases h1 : s.lim - s.live < n
    · rw [if_neg h0, if_pos h1, if_neg h0, if_pos h1, if_neg (by omega)]; exact h
    · rw [if_neg h0, if_neg h1, if_neg h0, if_neg h1, if_pos rfl]
      exact ⟨by have := h.sp0; omega, by have := h.live; show s.live + n = sp + n + tk s.bl; omega, h.laid, by show s.live + n ≤ s.lim; omega, h.l2, h.cells, h.ids, h.all, h.nodup⟩

/-- A new heap. -/
def newSt (n : Int) : St := ⟨n, 0, 0, [], fun _ => []⟩
theorem Inv.new (n : Int) (h0 : 0 ≤ n) (h1 : n ≤ 400000) : Inv 0 (newSt n) :=
  ⟨by omega, rfl, rfl, h0, h1, fun k h => absurd h (by simp [newSt]), fun n x h => (by cases h), fun n k h => absurd h (by simp [newSt]), fun n => List.nodup_nil⟩
end Go.Proofs.YtpmmploedkbeoaaGreatDoor.H

/- The pure part of a table: two parts, what a store does, who is present, a rehash. -/
namespace Go.Proofs.YtpmmploedkbeoaaGreatDoor
open Go.RowKit

/-- An array part and a hash part. -/
structure Pa where
  n : Nat
  F : Nat → V
  z : Nat
  g : G
abbrev kn (n : Int) : V := (2, n, ⟨#[]⟩)
/-- Is it in the array part? -/
def inA (n : Nat) (k : V) : Prop := k.1 = 2 ∧ k.2.2 = ⟨#[]⟩ ∧ 1 ≤ k.2.1 ∧ k.2.1 ≤ (n : Int)
instance (n : Nat) (k : V) : Decidable (inA n k) := inferInstanceAs (Decidable (_ ∧ _ ∧ _ ∧ _))
def ix (k : V) : Nat := k.2.1.toNat - 1
def pset (p : Pa) (k v : V) : Pa × Nat × Int :=
  if inA p.n k then ({ p with F := upd p.F (ix k) v }, 0, 0)
  else ({ p with g := (put p.z p.g k v).1 }, (put p.z p.g k v).2.1, (put p.z p.g k v).2.2)
def pget (p : Pa) (k : V) : V := if inA p.n k then p.F (ix k) else mg p.z p.g k
/-- How many nodes are read for it. -/
def prd (p : Pa) (k : V) : Nat := if inA p.n k then 0 else (fnd p.z p.g k).2

/-- Who is present. -/
def kA (F : Nat → V) : Nat → List V
  | 0 => []
  | i + 1 => kA F i ++ (if (F i).1 = 0 then [] else [kn ((i : Int) + 1)])
def kH (g : G) : Nat → List V
  | 0 => []
  | i + 1 => kH g i ++ (if (g.X i).1 = 0 then [] else [g.K i])
def pres (p : Pa) : List V := kA p.F p.n ++ kH p.g p.z
def ints (l : List V) : List Int := l.filterMap fun k => if k.1 = 2 then some k.2.1 else none
def oth (l : List V) : Nat := l.countP fun k => decide (k.1 ≠ 2)
theorem ints_app (l m : List V) : ints (l ++ m) = ints l ++ ints m := by simp [ints]
theorem oth_app (l m : List V) : oth (l ++ m) = oth l + oth m := by simp [oth]
theorem ints_len (l : List V) : (ints l).length + oth l = l.length := by
  induction l with
  | nil => rfl
  | cons k l ih =>
    rw [show k :: l = [k] ++ l from rfl, ints_app, oth_app, List.length_append, List.length_append]
    by_cases h : k.1 = 2
    · simp [ints, oth, h] at ih ⊢; omega
    · simp [ints, oth, h] at ih ⊢; omega
theorem kA_len (F : Nat → V) (n : Nat) : (kA F n).length ≤ n := by
  induction n with
  | zero => simp [kA]
  | succ n ih => rw [kA, List.length_append]; split <;> simp <;> omega
theorem kH_len (g : G) (n : Nat) : (kH g n).length ≤ n := by
  induction n with
  | zero => simp [kH]
  | succ n ih => rw [kH, List.length_append]; split <;> simp <;> omega

/-- A rehash's new parts. -/
def stp (p : Pa) (k v : V) : Pa := if v.1 = 0 then p else (pset p k v).1
def flA (old : Pa) (s : Nat) (p : Pa) : Nat → Pa
  | 0 => p
  | m + 1 => stp (flA old s p m) (kn (((s + m : Nat) : Int) + 1)) (old.F (s + m))
def flH (old : Pa) (p : Pa) : Nat → Pa
  | 0 => p
  | m + 1 => stp (flH old p m) (old.g.K (old.z - 1 - m)) (old.g.X (old.z - 1 - m))
def fresh (n z : Nat) : Pa := ⟨n, fun _ => nil, z, g0 z⟩
def cpy (old p : Pa) : Pa := { p with F := fun i => if i < min p.n old.n then old.F i else p.F i }
def fill (old p : Pa) : Pa := flH old (flA old (min p.n old.n) (cpy old p) (old.n - min p.n old.n)) old.z

/-- A table: its parts, the numbers of their blocks, the hint, what was read. -/
structure TS where
  p : Pa
  sb : Int
  nb : Int
  hint : Int
  pr : Int
/-- Two blocks taken, or none. -/
def tpE (s : H.St) (A Z : Int) : Int := if H.takeE s A ≠ 0 then H.takeE s A else H.takeE (H.takeSt s A) (3 * Z)
def tpS (s : H.St) (A Z : Int) : H.St :=
  if H.takeE s A ≠ 0 then s else if H.takeE (H.takeSt s A) (3 * Z) ≠ 0 then H.giveSt (H.takeSt s A) (H.takeId s A) else H.takeSt (H.takeSt s A) (3 * Z)
def rsE (p : Pa) (k : V) : Int := C.szE (ints (pres p ++ [k])) (oth (pres p ++ [k]) : Nat)
def rsA (p : Pa) (k : V) : Nat := (C.szA (ints (pres p ++ [k])) (oth (pres p ++ [k]) : Nat)).toNat
def rsZ (p : Pa) (k : V) : Nat := (C.szH (ints (pres p ++ [k])) (oth (pres p ++ [k]) : Nat)).toNat
def reh (t : TS) (s : H.St) (k : V) : TS × H.St × Int :=
  if rsE t.p k ≠ 0 then (t, s, rsE t.p k)
  else if tpE s (rsA t.p k) (rsZ t.p k) ≠ 0 then (t, tpS s (rsA t.p k) (rsZ t.p k), tpE s (rsA t.p k) (rsZ t.p k))
  else ({ p := fill t.p (fresh (rsA t.p k) (rsZ t.p k)), sb := H.takeId s (rsA t.p k), nb := H.takeId (H.takeSt s (rsA t.p k)) (3 * (rsZ t.p k : Nat)), hint := 0, pr := t.pr },
    H.giveSt (H.giveSt (tpS s (rsA t.p k) (rsZ t.p k)) t.sb) t.nb, 0)
def one (t : TS) (k v : V) : TS := { t with p := (pset t.p k v).1, pr := t.pr + (pset t.p k v).2.1 }
def tset (t : TS) (s : H.St) (k v : V) : TS × H.St × Int :=
  if ¬ (fm k = true ∧ fm v = true) then (t, s, 2) else if k.1 = 0 then (t, s, 9)
  else if (pset t.p k v).2.2 ≠ 12 then (one t k v, s, (pset t.p k v).2.2)
  else if (reh (one t k v) s k).2.2 ≠ 0 then reh (one t k v) s k
  else ({ (reh (one t k v) s k).1 with p := (pset (reh (one t k v) s k).1.p k v).1 }, (reh (one t k v) s k).2.1, (pset (reh (one t k v) s k).1.p k v).2.2)

/-- What stays true of the parts. -/
structure TI (p : Pa) : Prop where
  inv : Inv p.z (pl p.z) KOK p.g
  rt : Rt p.z
  le : p.n ≤ 65536
  fv : ∀ i, i < p.n → fm (p.F i) = true
  xv : ∀ i, i < p.z → fm (p.g.X i) = true
  out : ∀ i, i < p.z → ¬ inA p.n (p.g.K i)
theorem fm_nil : fm nil = true := by simp [fm, nil, inF, ByteArray.toList_eq]
theorem not_inA_nil (n : Nat) : ¬ inA n nil := fun h => absurd h.1 (by decide)
theorem TI.fr0 {n z : Nat} (hz : Rt z) (hn : n ≤ 65536) : TI (fresh n z) :=
  ⟨g0_inv z _, hz, hn, fun _ _ => fm_nil, fun _ _ => fm_nil, fun _ _ => not_inA_nil n⟩
theorem inA_kn {n : Nat} {i : Nat} : inA n (kn ((i : Int) + 1)) ↔ i < n := by
  unfold inA; simp; omega
theorem ix_kn (i : Nat) : ix (kn ((i : Int) + 1)) = i := by simp [ix]
theorem inA_ix {n : Nat} {k : V} (h : inA n k) : ix k < n ∧ k = kn ((ix k : Int) + 1) := by
  obtain ⟨a, b, c⟩ := k
  obtain ⟨h1, h2, h3, h4⟩ := h
  simp only at h1 h2 h3 h4
  subst h1 h2
  have e : ((ix (2, b, ⟨#[]⟩) : Nat) : Int) + 1 = b := by simp [ix]; omega
  exact ⟨by simp [ix]; omega, by rw [e]⟩
theorem KOK_kn {n : Nat} {i : Nat} (h : i < n) (hn : n ≤ 65536) : KOK (kn ((i : Int) + 1)) := by
  refine ⟨by simp [inF, ByteArray.toList_eq], by simp, by simp; omega, by simp; omega⟩

/-- Whose keys and values a part holds behind a Put. -/
theorem put_pairs {z : Nat} {g : G} {k v : V} (hi : Inv z (pl z) KOK g) (hz : Rt z) (hr : Rng k) {i : Nat} (hiz : i < z) :
    (put z g k v).1.K i = nil ∨ ((put z g k v).1.K i = k ∧ (put z g k v).1.X i = v ∧ fm v = true ∧ KOK k) ∨ ∃ j, j < z ∧ (put z g k v).1.K i = g.K j ∧ (put z g k v).1.X i = g.X j := by
  have same : (put z g k v).1.K = g.K → (put z g k v).1.X = g.X → (put z g k v).1.K i = nil ∨ ((put z g k v).1.K i = k ∧ (put z g k v).1.X i = v ∧ fm v = true ∧ KOK k) ∨ ∃ j, j < z ∧ (put z g k v).1.K i = g.K j ∧ (put z g k v).1.X i = g.X j :=
    fun e1 e2 => .inr (.inr ⟨i, hiz, by rw [e1], by rw [e2]⟩)
  by_cases hf : fm k = true ∧ fm v = true
  · by_cases hk : k.1 = 0
    · have e : put z g k v = (g, 0, 9) := by rw [put, if_pos hf, if_pos hk]
      exact same (by rw [e]) (by rw [e])
    · have hko : KOK k := ⟨hf.1, hk, hr.1, hr.2⟩
      have hz0 : z ≠ 0 := by omega
      have hz' := hz.resolve_left hz0
      have e : put z g k v = match find (pl z) g k with
        | (some i, n) => (setX g i v, n, 0)
        | (none, n) => if v.1 = 0 then (g, n, 0) else ((ins (pl z) g k v).1, n, full (ins (pl z) g k v).2) := by rw [put, if_pos hf, if_neg hk, if_neg hz0]; rfl
      cases hfi : find (pl z) g k with
      | mk o n =>
        rw [hfi] at e
        cases o with
        | some j =>
          obtain ⟨h1, h2, h3⟩ := hi.find_some (fun k _ => pl_lt hz' k) hko hfi
          simp only at e
          rw [e]
          by_cases q : i = j
          · exact .inr (.inl ⟨by rw [q]; exact h1, by rw [q]; exact upd_at _ _ _, hf.2, hko⟩)
          · exact .inr (.inr ⟨i, hiz, rfl, upd_ne _ _ q⟩)
        | none =>
          simp only at e
          by_cases hv0 : v.1 = 0
          · rw [if_pos hv0] at e; exact same (by rw [e]) (by rw [e])
          · rw [if_neg hv0] at e
            cases hb : (ins (pl z) g k v).2 with
            | true =>
              have hm := hi.ins_map (fun k _ => pl_lt hz' k) v hko hb
              rw [e]
              show (ins (pl z) g k v).1.K i = nil ∨ _
              by_cases q : (ins (pl z) g k v).1.K i = nil
              · exact .inl q
              · right
                rcases (hm _ _ q).1 ⟨i, hiz, rfl, rfl⟩ with ⟨q1, q2⟩ | ⟨j, hj, q1, q2⟩
                · exact .inl ⟨q1, q2, hf.2, hko⟩
                · exact .inr ⟨j, hj, q1.symm, q2.symm⟩
            | false =>
              have e2 : (ins (pl z) g k v).1.K = g.K ∧ (ins (pl z) g k v).1.X = g.X := by
                unfold ins at hb ⊢
                by_cases e1 : g.K (pl z k) = nil
                · rw [if_pos e1] at hb; cases hb
                · rw [if_neg e1] at hb ⊢
                  cases ht : tf g.K g.f with
                  | none => exact ⟨rfl, rfl⟩
                  | some a =>
                    rw [ht] at hb
                    simp only at hb
                    split at hb <;> cases hb
              exact same (by rw [e]; exact e2.1) (by rw [e]; exact e2.2)
  · have e : put z g k v = (g, 0, 2) := by rw [put, if_neg hf]
    exact same (by rw [e]) (by rw [e])

theorem TI.set {p : Pa} (h : TI p) {k v : V} (hr : Rng k) (hv : fm v = true) : TI (pset p k v).1 := by
  unfold pset
  by_cases hA : inA p.n k
  · rw [if_pos hA]
    refine ⟨h.inv, h.rt, h.le, fun i hi => ?_, h.xv, h.out⟩
    show fm (upd p.F (ix k) v i) = true
    by_cases q : i = ix k
    · rw [q, upd_at]; exact hv
    · rw [upd_ne _ _ q]; exact h.fv i hi
  · rw [if_neg hA]
    have hinv := (put_inv k v h.inv h.rt hr).1
    refine ⟨hinv, h.rt, h.le, h.fv, fun i hi => ?_, fun i hi => ?_⟩
    · show fm ((put p.z p.g k v).1.X i) = true
      rcases put_pairs (v := v) h.inv h.rt hr hi with q | ⟨_, q, _⟩ | ⟨j, hj, _, q⟩
      · rw [hinv.val i hi q]; exact fm_nil
      · rw [q]; exact hv
      · rw [q]; exact h.xv j hj
    · show ¬ inA p.n ((put p.z p.g k v).1.K i)
      rcases put_pairs (v := v) h.inv h.rt hr hi with q | ⟨q, _⟩ | ⟨j, hj, q, _⟩
      · rw [q]; exact not_inA_nil _
      · rw [q]; exact hA
      · rw [q]; exact h.out j hj
theorem pset_nz (p : Pa) (k v : V) : (pset p k v).1.n = p.n ∧ (pset p k v).1.z = p.z := by unfold pset; split <;> exact ⟨rfl, rfl⟩

/-- A store without an error is a map's. -/
theorem TI.map {p : Pa} (h : TI p) {k v : V} (hk : KOK k) (he : (pset p k v).2.2 = 0) : pget (pset p k v).1 k = v ∧ ∀ k', KOK k' → k' ≠ k → pget (pset p k v).1 k' = pget p k' := by
  unfold pset at he ⊢
  unfold pget
  by_cases hA : inA p.n k
  · rw [if_pos hA]
    refine ⟨by rw [if_pos hA]; exact upd_at _ _ _, fun k' hk' hne => ?_⟩
    show (if inA p.n k' then upd p.F (ix k) v (ix k') else _) = _
    by_cases hA' : inA p.n k'
    · rw [if_pos hA', if_pos hA', upd_ne]
      intro e
      exact hne (by rw [(inA_ix hA').2, (inA_ix hA).2, e])
    · rw [if_neg hA', if_neg hA']
  · rw [if_neg hA] at he ⊢
    obtain ⟨_, h1, h2⟩ := put_map h.inv h.rt ⟨hk.2.2.1, hk.2.2.2⟩ he
    refine ⟨by show (if inA p.n k then _ else _) = _; rw [if_neg hA]; exact h1, fun k' hk' hne => ?_⟩
    show (if inA p.n k' then p.F (ix k') else mg p.z (put p.z p.g k v).1 k') = _
    by_cases hA' : inA p.n k'
    · rw [if_pos hA', if_pos hA']
    · rw [if_neg hA', if_neg hA', h2 k' hk' hne]
theorem pset_bad {p : Pa} {k v : V} (he : (pset p k v).2.2 ≠ 0) (k' : V) : pget (pset p k v).1 k' = pget p k' := by
  unfold pset at he ⊢
  unfold pget
  by_cases hA : inA p.n k
  · rw [if_pos hA] at he; exact absurd rfl he
  · rw [if_neg hA] at he ⊢
    show (if inA p.n k' then p.F (ix k') else mg p.z (put p.z p.g k v).1 k') = _
    rw [(put_bad he).1 k']
end Go.Proofs.YtpmmploedkbeoaaGreatDoor

/- The walks of begin and fixed. -/
namespace Go.Proofs.YtpmmploedkbeoaaGreatDoor
open Go.RowKit

theorem info32 : (Tryz.prog.info? 37).map (fun i => (i.zero, i.size, i.bytes)) = some (some (vl 0 0 ⟨#[]⟩), 3, 32) := by kernel_rfl
abbrev zeros3 (n : Nat) : Array Value := madeCells (vl 0 0 ⟨#[]⟩).cells (n * 3)
abbrev zeros1 (n : Nat) : Array Value := madeCells (Value.slice none 0 0).cells (n * 1)
theorem make_vals (m : Nat) (hm : m ≤ 65536) (W : World) : (Instr.makeSlice 30 (.int .i64 m) (.int .i64 m)).run Tryz.prog W = .ok (.slice (some ⟨W.heap.size, 0, none⟩) m m) (W.alloc (.cells (zeros3 m) 37)) := by
  obtain ⟨i0, hi, hz0, hz1, hz2⟩ := info_parts info32
  have h := run_make (P := Tryz.prog) W 30 37 i0 (vl 0 0 ⟨#[]⟩) Tryz.underlying30 hi hz0 .i64 .i64 m m (by omega) (Int.le_refl _) (by rw [hz2]; omega) (by omega)
  rw [hz1] at h
  simpa using h
theorem four (w : World) (o1 o2 o3 o4 : Obj) : ((((w.alloc o1).alloc o2).alloc o3).alloc o4).heap[w.heap.size]? = some o1 ∧ ((((w.alloc o1).alloc o2).alloc o3).alloc o4).heap[w.heap.size + 1]? = some o2 ∧ ((((w.alloc o1).alloc o2).alloc o3).alloc o4).heap[w.heap.size + 1 + 1]? = some o3 ∧ ((((w.alloc o1).alloc o2).alloc o3).alloc o4).heap[w.heap.size + 1 + 1 + 1]? = some o4 := by
  have s1 : (w.alloc o1).heap.size = w.heap.size + 1 := by simp
  have s2 : ((w.alloc o1).alloc o2).heap.size = w.heap.size + 1 + 1 := by simp
  have s3 : (((w.alloc o1).alloc o2).alloc o3).heap.size = w.heap.size + 1 + 1 + 1 := by simp
  have h1 := (MapKept.heap_alloc w o1).1
  have h2 := (MapKept.heap_alloc (w.alloc o1) o2).1
  have h3 := (MapKept.heap_alloc ((w.alloc o1).alloc o2) o3).1
  have h4 := (MapKept.heap_alloc (((w.alloc o1).alloc o2).alloc o3) o4).1
  rw [s1] at h2
  rw [s2] at h3
  rw [s3] at h4
  refine ⟨?_, ?_, ?_, h4⟩
  · rw [Below.heap_alloc _ _ _ (by omega), Below.heap_alloc _ _ _ (by omega), Below.heap_alloc _ _ _ (by omega)]; exact h1
  · rw [Below.heap_alloc _ _ _ (by omega), Below.heap_alloc _ _ _ (by omega)]; exact h2
  · rw [Below.heap_alloc _ _ _ (by omega)]; exact h3
/-- What the reference's New leaves. -/
structure Rn (w w' : World) (S ka va ca n : Nat) : Prop where
  s : w'.heap[S]? = some (.cells #[.slice (some ⟨ka, 0, none⟩) n n, .slice (some ⟨va, 0, none⟩) n n, .slice (some ⟨ca, 0, none⟩) n n, .int .i64 (n : Nat)] 142)
  k : w'.heap[ka]? = some (.cells (zeros3 n) 37)
  v : w'.heap[va]? = some (.cells (zeros3 n) 37)
  c : w'.heap[ca]? = some (.cells (zeros1 n) 124)
  ne : ka ≠ va ∧ ka ≠ ca ∧ va ≠ ca ∧ S ≠ ka ∧ S ≠ va ∧ S ≠ ca
  ge : w.heap.size ≤ S ∧ w.heap.size ≤ ka ∧ w.heap.size ≤ va ∧ w.heap.size ≤ ca
  lt : S < w'.heap.size ∧ ka < w'.heap.size ∧ va < w'.heap.size ∧ ca < w'.heap.size
  bel : Below w.heap.size w w'

end Go.Proofs.YtpmmploedkbeoaaGreatDoor

/- A list of values that grows by append. -/
namespace Go.Proofs.YtpmmploedkbeoaaGreatDoor
open Go.RowKit

/-- A value's three cells. -/
def vc (x : V) : Nat → Value
  | 0 => .int .i64 x.1
  | 1 => .int .i64 x.2.1
  | _ => .string x.2.2
theorem lt3 {j : Nat} (h : j < 3) : j = 0 ∨ j = 1 ∨ j = 2 := by omega
def cellsV (F : Nat → V) (n : Nat) : List Value := (List.range (n * 3)).map (fun j => vc (F (j / 3)) (j % 3))
theorem cellsV_len (F : Nat → V) (n : Nat) : (cellsV F n).length = n * 3 := by simp [cellsV]
theorem cellsV_at (F : Nat → V) (n j : Nat) (h : j < n * 3) : (cellsV F n)[j]? = some (vc (F (j / 3)) (j % 3)) := by
  unfold cellsV
  rw [List.getElem?_map, List.getElem?_range h]
  rfl
theorem cellsV_congr {F F' : Nat → V} {n : Nat} (h : ∀ i, i < n → F i = F' i) : cellsV F n = cellsV F' n := by
  unfold cellsV
  refine List.map_congr_left fun j hj => ?_
  have : j < n * 3 := List.mem_range.1 hj
  rw [h (j / 3) (by omega)]
theorem cellsV_snoc (F : Nat → V) (n : Nat) (x : V) : cellsV F n ++ [.int .i64 x.1, .int .i64 x.2.1, .string x.2.2] = cellsV (upd F n x) (n + 1) := by
  refine List.ext_getElem? fun j => ?_
  by_cases h : j < n * 3
  · rw [List.getElem?_append_left (by rw [cellsV_len]; exact h), cellsV_at _ _ _ h, cellsV_at _ _ _ (by omega), upd_ne _ _ (by omega)]
  · rw [List.getElem?_append_right (by rw [cellsV_len]; omega), cellsV_len]
    by_cases h2 : j < (n + 1) * 3
    · rw [cellsV_at _ _ _ h2]
      have e : j / 3 = n := by omega
      rw [e, upd_at]
      rcases lt3 (show j - n * 3 < 3 by omega) with q | q | q
      · rw [q, show j % 3 = 0 by omega]; rfl
      · rw [q, show j % 3 = 1 by omega]; rfl
      · rw [q, show j % 3 = 2 by omega]; rfl
    · rw [List.getElem?_eq_none (by simp; omega), List.getElem?_eq_none (by rw [cellsV_len]; omega)]
theorem cellsV_one (F : Nat → V) (n : Nat) : ∀ u ∈ cellsV F n, u.oneCell' = true := by
  intro u hu
  unfold cellsV at hu
  rw [List.mem_map] at hu
  obtain ⟨j, _, rfl⟩ := hu
  unfold vc
  split <;> rfl

/-- The list of n values that v is, in a block of its own from B on. -/
structure Lv (w : World) (B : Nat) (v : Value) (n : Nat) (F : Nat → V) : Prop where
  own : w.ownsRow B 37 3 v n (cellsV F n)
theorem Lv.nil (w : World) (B : Nat) (F : Nat → V) : Lv w B (.slice none 0 0) 0 F := ⟨World.ownsRow_nil w B 37 3⟩
theorem Lv.alloc {w : World} {B : Nat} {v : Value} {n : Nat} {F : Nat → V} (h : Lv w B v n F) (o : Obj) : Lv (w.alloc o) B v n F := ⟨h.own.alloc o⟩
theorem Lv.drew {w : World} {B : Nat} {v : Value} {n : Nat} {F : Nat → V} (h : Lv w B v n F) : Lv w.drew B v n F := ⟨h.own.drew⟩
theorem Lv.grown {w w' : World} {B : Nat} {v : Value} {n : Nat} {F : Nat → V} {row : Option Nat} (h : Lv w B v n F) (hg : w.grownBy w' row) (hne : v.ownBlock = none ∨ v.ownBlock ≠ row) : Lv w' B v n F := ⟨h.own.kept hg hne⟩
theorem Lv.keep {No : Nat → Prop} {w w' : World} {B : Nat} {v : Value} {n : Nat} {F : Nat → V} (h : Lv w B v n F) (k : Keep No w w') (hn : ∀ g, v.ownBlock = some g → No g) : Lv w' B v n F := by
  refine ⟨h.own.1, ?_⟩
  rcases h.own.2 with q | ⟨g, cap, cur, rfl, h2, h3, h4⟩
  · exact .inl q
  · have hlt : g < w.heap.size := (Array.getElem?_eq_some_iff.1 h3).1
    exact .inr ⟨g, cap, cur, rfl, h2, by rw [k.block g hlt (hn g rfl)]; exact h3, h4⟩
theorem Lv.below {w w' : World} {B : Nat} {v : Value} {n : Nat} {F : Nat → V} (h : Lv w B v n F) (k : Below w.heap.size w w') : Lv w' B v n F := h.keep (No := fun _ => True) (Keep.of k) (fun _ _ => trivial)
theorem Lv.form {w : World} {B : Nat} {v : Value} {n : Nat} {F : Nat → V} (h : Lv w B v n F) : ∃ a c, v = .slice a n c := by
  rcases h.own.2 with ⟨rfl, rfl⟩ | ⟨g, cap, cur, rfl, _⟩
  · exact ⟨none, 0, rfl⟩
  · exact ⟨_, _, rfl⟩
theorem Lv.at {w : World} {B : Nat} {v : Value} {n : Nat} {F : Nat → V} (h : Lv w B v n F) {i : Nat} (hi : i < n) : ∃ g c, v = .slice (some ⟨g, 0, none⟩) n c ∧ B ≤ g ∧ g < w.heap.size ∧ (∀ j, w.frozen? ⟨g, j, none⟩ = false) ∧
    w.cell? ⟨g, i * 3, none⟩ = some (.int .i64 (F i).1) ∧ w.cell? ⟨g, i * 3 + 1, none⟩ = some (.int .i64 (F i).2.1) ∧ w.cell? ⟨g, i * 3 + 2, none⟩ = some (.string (F i).2.2) := by
  obtain ⟨g, c, rfl, h1, h2⟩ := h.own.form (by omega)
  have e : ∀ j, j < 3 → w.cell? ⟨g, i * 3 + j, none⟩ = some (vc (F i) j) := fun j hj => by
    rw [h.own.cellAt _ (by omega), cellsV_at _ _ _ (by omega), show (i * 3 + j) / 3 = i by omega, show (i * 3 + j) % 3 = j by omega]
  exact ⟨g, c, rfl, h1, h2, fun j => h.own.frozenAt j, e 0 (by omega), e 1 (by omega), e 2 (by omega)⟩
theorem Lv.app {w : World} {B : Nat} {v : Value} {n : Nat} {F : Nat → V} (h : Lv w B v n F) {b : Nat} (x : V) (hx : Bx w b x) (hn : n ≤ 400) (hB : B ≤ w.heap.size) :
    ∃ g c w', (Builtin.append_ #[30, 30] 30 #[v, .slice (some ⟨b, 0, none⟩) 1 1]).run Tryz.prog w = .ok (.slice (some ⟨g, 0, none⟩) (n + 1) c) w' ∧ Lv w' B (.slice (some ⟨g, 0, none⟩) (n + 1) c) (n + 1) (upd F n x) ∧ w.grownBy w' v.ownBlock ∧ (v.ownBlock = some g ∨ g = w.heap.size) ∧ g < w'.heap.size := by
  obtain ⟨i0, hi, hz0, hz1, hz2⟩ := info_parts info32
  obtain ⟨g, c, w', h1, h2, h3, h4, h5⟩ := run_append_lies (P := Tryz.prog) w 30 30 B 37 i0 (vl 0 0 ⟨#[]⟩) 3 32 Tryz.underlying30 hi hz0 hz1 hz2 rfl (by omega) v n (cellsV F n) h.own ⟨b, 0, none⟩ 1 1 [.int .i64 x.1, .int .i64 x.2.1, .string x.2.2] rfl (fun j u hu => by
    have hadd : (⟨b, 0, none⟩ : Addr).add j = ⟨b, j, none⟩ := by unfold Addr.add; split <;> simp_all
    rw [hadd]
    have hj : j < 3 := (List.getElem?_eq_some_iff.1 hu).1
    rcases lt3 hj with rfl | rfl | rfl
    · simp at hu; rw [← hu]; exact hx.c0
    · simp at hu; rw [← hu]; exact hx.c1
    · simp at hu; rw [← hu]; exact hx.c2) (by intro u hu; simp at hu; rcases hu with rfl | rfl | rfl <;> rfl) (by omega) (by simp only [maxLen]; omega) (by omega) hB _ rfl
  exact ⟨g, c, w', h1, ⟨by rw [← cellsV_snoc]; exact h2⟩, h3, h4, h5⟩
theorem Lv.set {w : World} {B : Nat} {n g c : Nat} {F : Nat → V} (h : Lv w B (.slice (some ⟨g, 0, none⟩) n c) n F) {i : Nat} (hi : i < n) (x : V) :
    Lv (((w.setCell ⟨g, i * 3, none⟩ (.int .i64 x.1)).setCell ⟨g, i * 3 + 1, none⟩ (.int .i64 x.2.1)).setCell ⟨g, i * 3 + 2, none⟩ (.string x.2.2)) B (.slice (some ⟨g, 0, none⟩) n c) n (upd F i x) := by
  have h1 := (h.own.stored (i * 3) (.int .i64 x.1)).1
  have h2 := (h1.stored (i * 3 + 1) (.int .i64 x.2.1)).1
  have h3 := (h2.stored (i * 3 + 2) (.string x.2.2)).1
  refine ⟨?_⟩
  have e : (((cellsV F n).set (i * 3) (.int .i64 x.1)).set (i * 3 + 1) (.int .i64 x.2.1)).set (i * 3 + 2) (.string x.2.2) = cellsV (upd F i x) n := by
    refine List.ext_getElem? fun j => ?_
    by_cases hj : j < n * 3
    · rw [cellsV_at _ _ _ hj]
      simp only [List.getElem?_set, List.length_set, cellsV_len]
      by_cases e2 : i * 3 + 2 = j
      · rw [if_pos e2, if_pos (by omega), show j / 3 = i by omega, upd_at, show j % 3 = 2 by omega]; rfl
      · rw [if_neg e2]
        by_cases e1 : i * 3 + 1 = j
        · rw [if_pos e1, if_pos (by omega), show j / 3 = i by omega, upd_at, show j % 3 = 1 by omega]; rfl
        · rw [if_neg e1]
          by_cases e0 : i * 3 = j
          · rw [if_pos e0, if_pos (by omega), show j / 3 = i by omega, upd_at, show j % 3 = 0 by omega]; rfl
          · rw [if_neg e0, cellsV_at _ _ _ hj, upd_ne _ _ (by omega)]
    · rw [List.getElem?_eq_none (by simp [cellsV_len]; omega), List.getElem?_eq_none (by rw [cellsV_len]; omega)]
  rw [e] at h3
  exact h3
end Go.Proofs.YtpmmploedkbeoaaGreatDoor

/- The reference's part in memory; the walks of its key, Find and Get. -/
namespace Go.Proofs.YtpmmploedkbeoaaGreatDoor
open Go.RowKit

/-- A row of values in block b. -/
structure Rv (w : World) (b z : Nat) (F : Nat → V) : Prop where
  c : ∀ i, i < z → ∀ j, j < 3 → w.cell? ⟨b, i * 3 + j, none⟩ = some (vc (F i) j)
theorem Rv.block {w w' : World} {b z : Nat} {F : Nat → V} (h : Rv w b z F) (hb : w'.heap[b]? = w.heap[b]?) : Rv w' b z F := ⟨fun i hi j hj => by rw [World.cell?_of_block (w := w) hb]; exact h.c i hi j hj⟩
/-- A chain: the list l in block b, or none. -/
def Rl (w : World) (v : Value) (b : Nat) (l : List Nat) : Prop := (l = [] ∧ v = .slice none 0 0) ∨ ∃ cap, l ≠ [] ∧ v = .slice (some ⟨b, 0, none⟩) l.length cap ∧ b < w.heap.size ∧ (∀ j, w.frozen? ⟨b, j, none⟩ = false) ∧ ∀ t, t < l.length → w.cell? ⟨b, t, none⟩ = some (.int .i64 ((l.getD t 0 : Nat) : Int))
theorem Rl.block {w w' : World} {v : Value} {b : Nat} {l : List Nat} (h : Rl w v b l) (hs : w.heap.size ≤ w'.heap.size) (hb : b < w.heap.size → w'.heap[b]? = w.heap[b]?) : Rl w' v b l := by
  rcases h with h | ⟨cap, h0, h1, h2, h3, h4⟩
  · exact .inl h
  · exact .inr ⟨cap, h0, h1, by omega, fun j => by rw [World.frozen?_of_block (w := w) (hb h2)]; exact h3 j, fun t ht => by rw [World.cell?_of_block (w := w) (hb h2)]; exact h4 t ht⟩
theorem Rl.form {w : World} {v : Value} {b : Nat} {l : List Nat} (h : Rl w v b l) : ∃ a c, v = .slice a l.length c := by
  rcases h with ⟨h1, h2⟩ | ⟨cap, _, h1, _⟩
  · exact ⟨none, 0, by rw [h2, h1]; rfl⟩
  · exact ⟨_, _, h1⟩
/-- The reference's part: the struct in S, keys in ka, values in va, chains in ca; chain m in cb m. -/
structure Rp (w : World) (S ka va ca z : Nat) (g : G) (cb : Nat → Nat) : Prop where
  s0 : w.cell? ⟨S, 0, none⟩ = some (.slice (some ⟨ka, 0, none⟩) z z)
  s1 : w.cell? ⟨S, 1, none⟩ = some (.slice (some ⟨va, 0, none⟩) z z)
  s2 : w.cell? ⟨S, 2, none⟩ = some (.slice (some ⟨ca, 0, none⟩) z z)
  s3 : w.cell? ⟨S, 3, none⟩ = some (.int .i64 (g.f : Nat))
  k : Rv w ka z g.K
  v : Rv w va z g.X
  c : ∀ m, m < z → ∃ u, w.cell? ⟨ca, m, none⟩ = some u ∧ Rl w u (cb m) (g.C m)
  fS : ∀ j, w.frozen? ⟨S, j, none⟩ = false
  fk : ∀ j, w.frozen? ⟨ka, j, none⟩ = false
  fv : ∀ j, w.frozen? ⟨va, j, none⟩ = false
  fc : ∀ j, w.frozen? ⟨ca, j, none⟩ = false
  ne : ka ≠ va ∧ ka ≠ ca ∧ va ≠ ca ∧ S ≠ ka ∧ S ≠ va ∧ S ≠ ca
  nb : ∀ m, m < z → g.C m ≠ [] → cb m ≠ S ∧ cb m ≠ ka ∧ cb m ≠ va ∧ cb m ≠ ca
  inj : ∀ m m', m < z → m' < z → g.C m ≠ [] → g.C m' ≠ [] → cb m = cb m' → m = m'
  lt : S < w.heap.size ∧ ka < w.heap.size ∧ va < w.heap.size ∧ ca < w.heap.size
/-- The blocks that are its own. -/
def Rp.Own (S ka va ca z : Nat) (g : G) (cb : Nat → Nat) (x : Nat) : Prop := x = S ∨ x = ka ∨ x = va ∨ x = ca ∨ ∃ m, m < z ∧ g.C m ≠ [] ∧ cb m = x
theorem Rp.kept {No : Nat → Prop} {w w' : World} {S ka va ca z : Nat} {g : G} {cb : Nat → Nat} (h : Rp w S ka va ca z g cb) (hk : Keep No w w') (hn : ∀ x, Rp.Own S ka va ca z g cb x → No x) : Rp w' S ka va ca z g cb := by
  have bS := hk.block S h.lt.1 (hn S (.inl rfl))
  have bk := hk.block ka h.lt.2.1 (hn ka (.inr (.inl rfl)))
  have bv := hk.block va h.lt.2.2.1 (hn va (.inr (.inr (.inl rfl))))
  have bc := hk.block ca h.lt.2.2.2 (hn ca (.inr (.inr (.inr (.inl rfl)))))
  refine ⟨by rw [World.cell?_of_block (w := w) bS]; exact h.s0, by rw [World.cell?_of_block (w := w) bS]; exact h.s1, by rw [World.cell?_of_block (w := w) bS]; exact h.s2, by rw [World.cell?_of_block (w := w) bS]; exact h.s3, h.k.block bk, h.v.block bv, fun m hm => ?_,
    fun j => by rw [World.frozen?_of_block (w := w) bS]; exact h.fS j, fun j => by rw [World.frozen?_of_block (w := w) bk]; exact h.fk j, fun j => by rw [World.frozen?_of_block (w := w) bv]; exact h.fv j, fun j => by rw [World.frozen?_of_block (w := w) bc]; exact h.fc j, h.ne, h.nb, h.inj, ?_⟩
  · obtain ⟨u, h1, h2⟩ := h.c m hm
    refine ⟨u, by rw [World.cell?_of_block (w := w) bc]; exact h1, ?_⟩
    by_cases he : g.C m = []
    · rcases h2 with q | ⟨cap, q0, _⟩
      · exact .inl q
      · exact absurd he q0
    · exact h2.block hk.size (fun hlt => hk.block _ hlt (hn _ (.inr (.inr (.inr (.inr ⟨m, hm, he, rfl⟩))))))
  · have := h.lt; have := hk.size; omega
theorem Rp.below {w w' : World} {S ka va ca z : Nat} {g : G} {cb : Nat → Nat} (h : Rp w S ka va ca z g cb) (k : Below w.heap.size w w') : Rp w' S ka va ca z g cb := h.kept (No := fun _ => True) (Keep.of k) (fun _ _ => trivial)
theorem Rv.at {w : World} {b z : Nat} {F : Nat → V} (h : Rv w b z F) {i : Nat} (hi : i < z) : w.cell? ⟨b, i * 3, none⟩ = some (.int .i64 (F i).1) ∧ w.cell? ⟨b, i * 3 + 1, none⟩ = some (.int .i64 (F i).2.1) ∧ w.cell? ⟨b, i * 3 + 2, none⟩ = some (.string (F i).2.2) :=
  ⟨h.c i hi 0 (by omega), h.c i hi 1 (by omega), h.c i hi 2 (by omega)⟩

end Go.Proofs.YtpmmploedkbeoaaGreatDoor
