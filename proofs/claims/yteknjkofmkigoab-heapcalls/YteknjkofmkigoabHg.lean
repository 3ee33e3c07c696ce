/- The walk of Give. -/
import Derived.Test.YteknjkofmkigoabHt
import Derived.Deep.RegionHeld3
namespace Go.Proofs.Yteknjkofmkigoab.H
open Go.RowKit

/-- The block number id is taken. -/
def Given (s : St) (id : Int) : Prop := 1 ≤ id ∧ id ≤ (s.bl.length : Int) ∧ (s.bl.getD (id.toNat - 1) (0, false)).2 = true
instance (s : St) (id : Int) : Decidable (Given s id) := inferInstanceAs (Decidable (_ ∧ _ ∧ _))
def giveE (s : St) (id : Int) : Int := if id = 0 then 0 else if Given s id then 0 else 1
def cellsOf (s : St) (id : Int) : Int := (s.bl.getD (id.toNat - 1) (0, false)).1
def giveSt (s : St) (id : Int) : St :=
  if Given s id then { s with live := s.live - cellsOf s id, bl := setT s.bl (id.toNat - 1) false, R := upd s.R (cellsOf s id) (s.R (cellsOf s id) ++ [id]) } else s
theorem give_at {s : St} {k : Nat} (hk : k < s.bl.length) (ht : (s.bl[k]'hk).2 = true) : giveE s ((k : Int) + 1) = 0 ∧ giveSt s ((k : Int) + 1) = { s with live := s.live - (s.bl[k]'hk).1, bl := setT s.bl k false, R := upd s.R (s.bl[k]'hk).1 (s.R (s.bl[k]'hk).1 ++ [(k : Int) + 1]) } := by
  have e : ((k : Int) + 1).toNat - 1 = k := by omega
  have e2 : s.bl.getD k (0, false) = s.bl[k]'hk := by rw [List.getD, List.getElem?_eq_getElem hk]; rfl
  have hg : Given s ((k : Int) + 1) := ⟨by omega, by omega, by rw [e, e2]; exact ht⟩
  refine ⟨?_, ?_⟩
  · unfold giveE; rw [if_neg (by omega), if_pos hg]
  · unfold giveSt cellsOf; rw [if_pos hg, e, e2]
theorem give_not {s : St} {k : Nat} (hk : k < s.bl.length) (ht : (s.bl[k]'hk).2 = false) : giveE s ((k : Int) + 1) = 1 ∧ giveSt s ((k : Int) + 1) = s := by
  have e : ((k : Int) + 1).toNat - 1 = k := by omega
  have e2 : s.bl.getD k (0, false) = s.bl[k]'hk := by rw [List.getD, List.getElem?_eq_getElem hk]; rfl
  have hg : ¬ Given s ((k : Int) + 1) := fun q => by have := q.2.2; rw [e, e2, ht] at this; cases this
  refine ⟨?_, ?_⟩
  · unfold giveE; rw [if_neg (by omega), if_neg hg]
  · unfold giveSt; rw [if_neg hg]
theorem give_out {s : St} {id : Int} (h : id < 0 ∨ (s.bl.length : Int) < id) : giveE s id = 1 ∧ giveSt s id = s := by
  have hg : ¬ Given s id := fun q => by have := q.1; have := q.2.1; omega
  refine ⟨?_, ?_⟩
  · unfold giveE; rw [if_neg (by omega), if_neg hg]
  · unfold giveSt; rw [if_neg hg]
theorem give_zero (s : St) : giveE s 0 = 0 ∧ giveSt s 0 = s := by
  have hg : ¬ Given s 0 := fun q => by have := q.1; omega
  refine ⟨rfl, ?_⟩
  unfold giveSt; rw [if_neg hg]

set_option maxRecDepth 20000 in
set_option maxHeartbeats 1000000 in
theorem give_bad {No : Nat → Prop} {w : World} {S b c : Nat} {vb : Value} {s : St} (h : Hp No w S b c vb s) (hc : c ≤ 1000000) (id : Int) (hid : ¬ Given s id) :
    Calls Try.prog 24 #[.pointer (some ⟨S, 0, none⟩), .int .i64 id] w fun e w' => e = .returned (.int .i64 (giveE s id)) ∧ w' = w := by
  have c3 := h.c3
  have hlen := h.len
  by_cases h0 : id = 0
  · subst h0
    rw [(give_zero s).1]
    clear h c3 hid
    go_enter Try.func24, Try.ntmps24
    go_wp2_with fail
    go_ret
    exact ⟨rfl, rfl⟩
  · have h0' : (id == 0) = false := by simpa using h0
    by_cases h1 : id < 0
    · rw [(give_out (.inl h1)).1]
      clear h c3 hid
      go_enter Try.func24, Try.ntmps24
      go_wp2_with fail
      go_ret
      exact ⟨rfl, rfl⟩
    · by_cases h2 : (s.bl.length : Int) < id
      · rw [(give_out (.inr h2)).1]
        obtain ⟨a, cap, rfl, _⟩ := slice_of h.row
        clear h hid
        generalize s.bl.length = m at *
        go_enter Try.func24, Try.ntmps24
        go_wp2_with fail
        go_ret
        exact ⟨rfl, rfl⟩
      · obtain ⟨k, rfl⟩ : ∃ k : Nat, id = (k : Int) + 1 := ⟨id.toNat - 1, by omega⟩
        have hk : k < s.bl.length := by omega
        have ht : (s.bl[k]'hk).2 = false := by
          cases q : (s.bl[k]'hk).2 with
          | false => rfl
          | true =>
            exact absurd ⟨by omega, by omega, by rw [show ((k : Int) + 1).toNat - 1 = k by omega, List.getD, List.getElem?_eq_getElem hk]; exact q⟩ hid
        rw [(give_not hk ht).1]
        obtain ⟨g, cap, rfl⟩ := h.form (by omega)
        obtain ⟨d1, d0, _, hcap⟩ := h.cellT k hk
        rw [ht] at d1
        clear d0
        have hkm : (k : Int) < (s.bl.length : Int) := by omega
        have hm : s.bl.length ≤ 1000000 := by omega
        clear h hid ht h2
        generalize s.bl.length = m at *
        go_enter Try.func24, Try.ntmps24
        go_wp2_with fail
        go_ret
        exact ⟨rfl, rfl⟩

theorem info3 : (Try.prog.info? 3).map (fun i => (i.zero, i.size, i.bytes)) = some (some (.int .i64 0), 1, 8) := by kernel_rfl

/-- The heap with another map. -/
theorem Hp.via {No : Nat → Prop} {w w2 : World} {S b c c' : Nat} {vb : Value} {s : St} (h : Hp No w S b c vb s) (R' : Int → List Int) (hr : Rdy No w2 b c' R') (hS : w2.heap[S]? = w.heap[S]?) (hrow : ∀ q, vb.ownBlock = some q → w2.heap[q]? = w.heap[q]?) (hsz : w.heap.size ≤ w2.heap.size) (hc : c ≤ c') : Hp No w2 S b c' vb { s with R := R' } := by
  refine ⟨hS.trans h.str, ⟨h.row.1, ?_⟩, hr, Nat.le_trans h.len hc, h.noS, h.nob, h.nov, fun q r => Nat.lt_of_lt_of_le (h.nos q r) hsz⟩
  rcases h.row.2 with q | ⟨g, cap, cur, q, q1, q2, q3⟩
  · exact .inl q
  · exact .inr ⟨g, cap, cur, q, q1, (hrow g (by rw [q]; rfl)).trans q2, q3⟩
/-- A list that is pushed upon: the append and the store that follows. -/
theorem Hp.push {No : Nat → Prop} {W : World} {S b c : Nat} {vb : Value} {s : St} (h : Hp No W S b c vb s) (hc : c ≤ 1000000) (x : Int) (h0 : 1 ≤ x) (h1 : x ≤ 400000) (id : Int) (hid : (Lit.int .i64 id).wf = true) :
    ∃ a cap, W.ownsInts (b + 1) 3 .i64 (.slice a (s.R x).length cap) (s.R x) ∧ (s.R x).length ≤ c ∧
      (∀ W', W'.heap[b]? = W.heap[b]? → (Instr.lookup 67 (.map (some b)) (.int .i64 x) false).run Try.prog W' = .ok (.slice a (s.R x).length cap) W') ∧
      some S ≠ (Value.slice a (s.R x).length cap).ownBlock ∧ (∀ q, vb.ownBlock = some q → some q ≠ (Value.slice a (s.R x).length cap).ownBlock) ∧
      ∀ w1 gg cap2, W.grownBy w1 (Value.slice a (s.R x).length cap).ownBlock → w1.ownsRow (b + 1) 3 1 (.slice (some ⟨gg, 0, none⟩) ((s.R x).length + 1) cap2) ((s.R x).length + 1) ((s.R x).map (Value.int .i64) ++ [.int .i64 id]) → ((Value.slice a (s.R x).length cap).ownBlock = some gg ∨ gg = W.heap.size + 1) →
        ∃ w2, (Instr.mapUpdate 67 (.map (some b)) (.int .i64 x) (.slice (some ⟨gg, 0, none⟩) ((s.R x).length + 1) cap2)).run Try.prog w1 = .ok () w2 ∧ w1.grownBy w2 (some b) ∧ Hp No w2 S b (c + 1) vb { s with R := upd s.R x (s.R x ++ [id]) } ∧ Keep No W w2 := by
  have hw := wf_of (k := x) (by omega) (by omega)
  obtain ⟨v, hl, ho, hlen, hno, hback⟩ := h.rdy.look (by unfold maxLen; omega) x hw
  obtain ⟨a1, a2, a3, a4, lS, lb⟩ := h.apart
  have hty : ∀ q, v.ownBlock = some q → ∃ cur, W.heap[q]? = some (.cells cur 3 (0, 0)) := fun q e => by
    rcases ho.1.2 with ⟨e1, _⟩ | ⟨g', cap', cur, e1, _, hh, _⟩
    · rw [e1] at e; cases e
    · rw [e1] at e
      injection e with e
      subst e
      exact ⟨cur, hh⟩
  have nS : some S ≠ v.ownBlock := fun e => by
    obtain ⟨cur, q⟩ := hty S e.symm
    rw [h.str] at q
    injection q with q
    injection q with _ q _
    cases q
  have nv : ∀ q, vb.ownBlock = some q → some q ≠ v.ownBlock := fun q e e2 => by
    obtain ⟨cur, q1⟩ := hty q e2.symm
    obtain ⟨cur2, q2⟩ := a4 q e
    rw [q1] at q2
    injection q2 with q2
    injection q2 with _ q2 _
    cases q2
  obtain ⟨a, cap, rfl, _⟩ := slice_of ho.1
  refine ⟨a, cap, ho, hlen, fun W' hb' => h.rdy.far hw hl hb', nS, nv, fun w1 gg cap2 hg hown hat => ?_⟩
  obtain ⟨w2, hu, hr2, hg2⟩ := hback w1 _ (s.R x ++ [id]) hg (ho.appended hown hid) (by simp; omega) (by
    rcases hat with q | q
    · exact .inl q.symm
    · exact .inr ⟨gg, rfl, by omega⟩) (fun q e r => by
    injection e with e
    subst e
    rcases hat with q | q
    · exact hno _ q r
    · have := h.nos _ r
      simp only at this
      omega)
  have hs := hg.size
  refine ⟨w2, hu, hg2, h.via _ hr2 ?_ (fun q e => ?_) (Nat.le_trans hg.size hg2.size) (Nat.le_succ _), ((Keep.refl No W).grown hg hno).grown hg2 (fun q e => by cases e; exact h.nob)⟩
  · exact (hg2.block S (by omega) (fun e => a1 (by injection e))).trans (hg.block S lS nS)
  · have lq := (h.row.lt q e).2
    exact (hg2.block q (by omega) (fun e2 => a3 (by rw [e]; exact e2))).trans (hg.block q lq (nv q e))

set_option maxRecDepth 20000 in
set_option maxHeartbeats 2000000 in
theorem give_good {No : Nat → Prop} {w : World} {S b c : Nat} {vb : Value} {s : St} (h : Hp No w S b c vb s) (hc : c ≤ 1000000) (ok : Ok s) (k : Nat) (hk : k < s.bl.length) (ht : (s.bl[k]'hk).2 = true) (hcl : (s.bl[k]'hk).1 ≤ s.live) :
    Calls Try.prog 24 #[.pointer (some ⟨S, 0, none⟩), .int .i64 ((k : Int) + 1)] w fun e w' => e = .returned (.int .i64 0) ∧ (∃ v', Hp No w' S b (c + 1) v' (giveSt s ((k : Int) + 1))) ∧ Keep No w w' := by
  have hlen := h.len
  have c3 := h.c3
  have c1 := h.c1
  have f1 := h.fr 1
  have hl0 := ok.l0
  have hl1 := ok.l1
  have hl2 := ok.l2
  obtain ⟨hx0, hx1⟩ := ok.cells k hk
  rw [(give_at hk ht).2]
  obtain ⟨g, cap, rfl⟩ := h.form (by omega)
  obtain ⟨d1, d0, fz, hcap⟩ := h.cellT k hk
  rw [ht] at d1
  have fg := fz (k * 2 + 1)
  have ns := h.apart.2.1
  have hgS : g ≠ S := fun e => ns (by rw [e]; rfl)
  have h1 := ((h.setTaken k hk false).setLive (s.live - (s.bl[k]'hk).1)).drew
  have k1 : Keep No w ((w.setCell ⟨g, k * 2 + 1, none⟩ (.bool false)).setCell ⟨S, 1, none⟩ (.int .i64 (s.live - (s.bl[k]'hk).1))).drew :=
    (((Keep.refl No w).grown (gset w g _ _) (fun q e => by cases e; exact h.nov g rfl)).grown (gset _ S 1 _) (fun q e => by cases e; exact h.noS)).drew
  have hkm : (k : Int) < (s.bl.length : Int) := by omega
  have hm : s.bl.length ≤ 1000000 := by omega
  obtain ⟨x, hx⟩ : ∃ x, (s.bl[k]'hk).1 = x := ⟨_, rfl⟩
  have H1 : Hid _ := h1
  have K1 : Hid _ := k1
  rw [hx] at d0 hx0 hx1 hcl H1 K1 ⊢
  have hz : ((k : Int) + 1 == 0) = false := by simp; omega
  have hkk : IntKind.i64.wrap ((k : Int) + 1 - 1) = (k : Int) := by rw [IntKind.wrap_i64]; omega
  have E5 : Hid (((w.setCell ⟨g, k * 2 + 1, none⟩ (.bool false)).setCell ⟨S, 1, none⟩ (.int .i64 (s.live - x))).drew.cell? ⟨g, k * 2, none⟩ = some (.int .i64 x)) := by
    show ((w.setCell ⟨g, k * 2 + 1, none⟩ (.bool false)).setCell ⟨S, 1, none⟩ (.int .i64 (s.live - x))).cell? ⟨g, k * 2, none⟩ = some (.int .i64 x)
    rw [World.cell?_setCell_other _ _ _ _ (fun q => by injection q with q1 _; omega), World.cell?_setCell_other _ _ _ _ (fun q => by injection q with _ q2; omega)]
    exact d0
  clear h h1 k1 hx ns fz ok ht
  obtain ⟨m, hm2⟩ : ∃ m, s.bl.length = m := ⟨_, rfl⟩
  rw [hm2] at c3 hcap hkm hm
  go_enter Try.func24, Try.ntmps24
  go_wp2_with fail
  go_region
  obtain ⟨W, hW⟩ : ∃ W, W = ((w.setCell ⟨g, k * 2 + 1, none⟩ (.bool false)).setCell ⟨S, 1, none⟩ (.int .i64 (s.live - x))).drew := ⟨_, rfl⟩
  rw [← hW] at H1 K1 E5 ⊢
  have hP := Hp.push H1.out hc x hx0 hx1 ((k : Int) + 1) (wf_of (by omega) (by omega))
  have e4 := Hp.c4 H1.out
  have e5 := E5.out
  obtain ⟨_, _, _, _, lS, lb⟩ := Hp.apart H1.out
  have lg : g < W.heap.size := World.block_lt_of_cell? W _ e5
  simp only at hP
  obtain ⟨av, cv, ho, hlen2, hlook, nS, nv, HB0⟩ := hP
  have ng := nv g rfl
  have HB : Hid _ := HB0
  have gb : some g ≠ some b := fun e => (Hp.apart H1.out).2.2.1 (by injection e with e; rw [← e]; rfl)
  have Sb : some S ≠ some b := fun e => (Hp.apart H1.out).1 (by injection e)
  have hl1 := hlook W.drew rfl
  have hl2 := hlook (W.alloc (.cells #[.int .i64 ((k : Int) + 1)] 3)).drew ((World.grownBy_alloc W _ none).block b lb (by simp))
  obtain ⟨i0, hi0, hz0, hz1, hz2⟩ := info_parts info3
  have hlen3 : (s.R x).length ≤ 1000000 := by omega
  clear hW c1 f1 c3 d1 d0 fg E5 H1 nv hlook HB0 hlen hlen2 hm2 hk hcap hkm hm hz hkk hcl
  have HO : Hid (W.ownsRow (b + 1) 3 1 (.slice av (s.R x).length cv) (s.R x).length ((s.R x).map (Value.int .i64))) := ho.1
  clear ho
  generalize (s.R x).length = n at *
  go_wp2_with fail
  go_region_held3 (fun w' => w'.cell? ⟨S, 4, none⟩ = some (.map (some b)) ∧ w'.cell? ⟨g, k * 2, none⟩ = some (.int .i64 x))
    (first
      | (go_split_ands; refine ⟨by go_keep, by go_keep⟩)
      | (go_split_ands
         refine ⟨?_, ?_⟩
         · (rw [hgrow.cell_far _ (by simp; omega) nS]; go_keep)
         · (rw [hgrow.cell_far _ (by simp; omega) ng]; go_keep))
      | (go_split_ands
         refine ⟨?_, ?_⟩
         · (rw [hg2.cell_far _ (by have := hgrow.size; simp at this; simp; omega) Sb]; assumption)
         · (rw [hg2.cell_far _ (by have := hgrow.size; simp at this; simp; omega) gb]; assumption)))
    ((refine step_append_lies _ (by rfl) _ _ _ (by rfl) (b + 1) 3 i0 _ 1 8 Try.underlying22 hi0 hz0 hz1 hz2 rfl (by omega) (.slice av n cv) n ((s.R x).map (Value.int .i64)) (by rfl) (World.ownsRow.drew (World.ownsRow.alloc HO.out _)) ⟨W.heap.size, 0, none⟩ 1 1 [.int .i64 ((k : Int) + 1)] (by rfl) (by rfl) (World.news_of_block (cs := #[.int .i64 ((k : Int) + 1)]) (t := 3) (fr := (0, 0)) (heap_alloc_new W _)) (by simp [Value.oneCell']) (by omega) (by unfold maxLen; omega) (by omega) (by simp; omega) (W.heap.size + 1) (by simp) ?_; intro gg cap2 w1 hown1 hgrow hat hlt; obtain ⟨w2, hu, hg2, hp2, k2⟩ := HB.out w1 gg cap2 ((World.grownBy_alloc W _ _).trans ((gdrew _ _).trans hgrow)) hown1 hat))
  all_goals
    go_wp2_with fail
    go_ret
    exact ⟨rfl, ⟨_, hp2⟩, K1.out.trans k2⟩

end Go.Proofs.Yteknjkofmkigoab.H
