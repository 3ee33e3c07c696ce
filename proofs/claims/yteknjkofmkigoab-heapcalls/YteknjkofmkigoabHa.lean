/- The walks of again and lay. -/
import Derived.Test.YteknjkofmkigoabHw
namespace Go.Proofs.Yteknjkofmkigoab.H
open Go.RowKit

/-- R with another list at the key. -/
def upd (R : Int → List Int) (n : Int) (l : List Int) : Int → List Int := fun j => if j = n then l else R j
theorem slice_of {w : World} {base n size : Nat} {e : TypeId} {v : Value} {xs : List Value} (h : w.ownsRow base e size v n xs) : ∃ a cap, v = .slice a n cap ∧ n ≤ cap := by
  rcases h.2 with ⟨rfl, rfl⟩ | ⟨g, cap, cur, rfl, _, _, q, _⟩
  · exact ⟨_, _, rfl, Nat.le_refl _⟩
  · exact ⟨_, _, rfl, q⟩

set_option maxHeartbeats 400000 in
theorem again_none {No : Nat → Prop} {w : World} {S b c : Nat} {vb : Value} {s : St} (h : Hp No w S b c vb s) (hc : c ≤ 1000000) (n : Int) (h0 : 0 ≤ n) (h1 : n ≤ 400000) (hR : s.R n = []) :
    Calls Try.prog 39 #[.pointer (some ⟨S, 0, none⟩), .int .i64 n] w fun e w' => e = .returned (.int .i64 0) ∧ w' = w := by
  obtain ⟨v, hl, ho, _, _, _⟩ := h.rdy.look (by unfold maxLen; omega) n (wf_of (by omega) (by omega))
  rw [hR] at ho
  obtain ⟨a, cap, rfl, _⟩ := slice_of ho.1
  have c4 := h.c4
  clear ho h hR
  simp only [List.length_nil] at hl
  go_enter Try.func39, Try.ntmps39
  go_wp2
  go_ret
  exact ⟨rfl, rfl⟩

set_option maxRecDepth 20000 in
set_option maxHeartbeats 1000000 in
theorem again_some {No : Nat → Prop} {w : World} {S b c : Nat} {vb : Value} {s : St} (h : Hp No w S b c vb s) (hc : c ≤ 1000000) (n : Int) (h0 : 0 ≤ n) (h1 : n ≤ 400000) (zs : List Int) (x : Int) (hR : s.R n = zs ++ [x]) :
    Calls Try.prog 39 #[.pointer (some ⟨S, 0, none⟩), .int .i64 n] w fun e w' => e = .returned (.int .i64 x) ∧ Hp No w' S b (c + 1) vb { s with R := upd s.R n zs } ∧ Keep No w w' := by
  obtain ⟨v, hl, ho, hlen, hno, hback⟩ := h.rdy.look (by unfold maxLen; omega) n (wf_of (by omega) (by omega))
  rw [hR] at ho hlen
  obtain ⟨g, cap, rfl, hg0, hg1⟩ := ho.1.form (by simp)
  have hcap : zs.length + 1 ≤ cap := by
    obtain ⟨_, _, q, q2⟩ := slice_of ho.1
    injection q with _ _ q3
    subst q3
    simpa using q2
  have hl1 : (zs ++ [x]).length = zs.length + 1 := by simp
  have hv' : w.drew.ownsInts (b + 1) 3 .i64 (.slice (some ⟨g, 0, none⟩) zs.length cap) zs := by
    refine ⟨⟨by simp, .inr ?_⟩, fun z hz => ho.2 z (by simp [hz])⟩
    rcases ho.1.2 with ⟨q, _⟩ | ⟨g', cap', cur, q, q1, q2, q3, q4, q5, q6⟩
    · cases q
    · injection q with qa _ qc
      injection qa with qa
      injection qa with qa _ _
      subst qa qc
      refine ⟨g, cap, cur, rfl, q1, q2, by omega, q4, q5, ?_⟩
      have := congrArg (List.take zs.length) q6
      rw [List.take_take] at this
      simpa using this
  obtain ⟨w2, hu, hr2, hg2⟩ := hback w.drew (.slice (some ⟨g, 0, none⟩) zs.length cap) zs (gdrew w _) hv' (by rw [hl1] at hlen; omega) (.inl rfl) hno
  have hbg : some g ≠ some b := fun e => by injection e with e; omega
  have hx : w2.cell? ⟨g, zs.length, none⟩ = some (.int .i64 x) := by
    rw [hg2.cell_far ⟨g, zs.length, none⟩ hg1 hbg]
    have := ho.1.cells (g := g) rfl zs.length (.int .i64 x) (by simp)
    have e : (Addr.add ⟨g, 0, none⟩ zs.length) = ⟨g, zs.length, none⟩ := by
      by_cases hz : zs.length = 0
      · rw [hz]; rfl
      · simp [Addr.add, hz]
    rw [e] at this
    exact this
  have c4 := h.c4
  have lS : S < w.heap.size := (Array.getElem?_eq_some_iff.1 h.str).1
  have nSb : some S ≠ some b := fun e => by
    injection e with e
    obtain ⟨es, clock, hb⟩ := h.rdy.block
    have := h.str
    rw [e, hb] at this
    cases this
  have HF : Hid (Hp No w2 S b (c + 1) vb { s with R := upd s.R n zs } ∧ Keep No w w2) := by
    refine ⟨⟨(hg2.block S lS nSb).trans h.str, ?_, hr2, Nat.le_succ_of_le h.len, h.noS, h.nob, h.nov, fun q r => Nat.lt_of_lt_of_le (h.nos q r) hg2.size⟩, (Keep.refl No w).drew.grown hg2 (fun q e => by cases e; exact h.nob)⟩
    refine World.ownsRow.kept (World.ownsRow.drew h.row) hg2 ?_
    cases q : vb.ownBlock with
    | none => exact .inl rfl
    | some y =>
      right
      intro e
      injection e with e
      subst e
      obtain ⟨es, clock, hb⟩ := h.rdy.block
      rcases h.row.2 with ⟨e1, _⟩ | ⟨g', cap', cur, e1, _, hh, _⟩
      · rw [e1] at q; cases q
      · rw [e1] at q
        injection q with q
        subst q
        rw [hb] at hh; cases hh
  rw [hl1] at hl
  rw [hl1] at hlen
  clear ho hv' hback hg2 hr2 h hR hl1 hno
  generalize zs.length = L at *
  have hL : (L : Int) ≤ (cap : Int) := by omega
  have hL2 : (L : Int) ≤ 1000000 := by omega
  have hm : IntKind.i64.wrap (((L + 1 : Nat) : Int) - 1) = (L : Int) := by rw [IntKind.wrap_i64]; omega
  have hz : (((L + 1 : Nat) : Int) == 0) = false := by simp; omega
  clear hlen
  go_enter Try.func39, Try.ntmps39
  go_wp2
  go_region
  all_goals
    go_wp2
    go_ret
    exact ⟨rfl, HF.out⟩

theorem info72 : (Try.prog.info? 72).map (fun i => (i.zero, i.size, i.bytes)) = some (some (.agg #[.int .i64 0, .bool false]), 2, 16) := by kernel_rfl

/-- The heap's own blocks are apart by what they hold. -/
theorem Hp.apart {No : Nat → Prop} {w : World} {S b c : Nat} {vb : Value} {s : St} (h : Hp No w S b c vb s) : S ≠ b ∧ vb.ownBlock ≠ some S ∧ vb.ownBlock ≠ some b ∧ (∀ g, vb.ownBlock = some g → ∃ cur, w.heap[g]? = some (.cells cur 72 (0, 0))) ∧ S < w.heap.size ∧ b < w.heap.size := by
  obtain ⟨es, clock, hb⟩ := h.rdy.block
  have hv : ∀ g, vb.ownBlock = some g → ∃ cur, w.heap[g]? = some (.cells cur 72 (0, 0)) := fun g e => by
    rcases h.row.2 with ⟨e1, _⟩ | ⟨g', cap', cur, e1, _, hh, _⟩
    · rw [e1] at e; cases e
    · rw [e1] at e
      injection e with e
      subst e
      exact ⟨cur, hh⟩
  refine ⟨fun e => ?_, fun e => ?_, fun e => ?_, hv, (Array.getElem?_eq_some_iff.1 h.str).1, (Array.getElem?_eq_some_iff.1 hb).1⟩
  · have := h.str
    rw [e, hb] at this
    cases this
  · obtain ⟨cur, q⟩ := hv S e
    rw [h.str] at q
    injection q with q
    injection q with _ q _
    cases q
  · obtain ⟨cur, q⟩ := hv b e
    rw [hb] at q
    cases q
/-- What lay leaves. -/
theorem Hp.laid {No : Nat → Prop} {w w1 : World} {S b c : Nat} {vb v' : Value} {s : St} (h : Hp No w S b c vb s) (n : Int) (o : Obj) (hg : (w.alloc o).grownBy w1 vb.ownBlock) (g cap : Nat) (hv : v' = .slice (some ⟨g, 0, none⟩) (s.bl.length + 1) cap)
    (hown : w1.ownsRow 0 72 2 v' (s.bl.length + 1) (bcells s.bl ++ [.int .i64 n, .bool false])) (hat : vb.ownBlock = some g ∨ g = w.heap.size + 1) :
    Hp No ((w1.setCell ⟨S, 3, none⟩ v').setCell ⟨S, 2, none⟩ (.int .i64 (s.laid + n))) S b (c + 1) v' { s with laid := s.laid + n, bl := s.bl ++ [(n, false)] } ∧ Keep No w ((w1.setCell ⟨S, 3, none⟩ v').setCell ⟨S, 2, none⟩ (.int .i64 (s.laid + n))) := by
  obtain ⟨a1, a2, a3, a4, lS, lb⟩ := h.apart
  have hs := hg.size
  have hal : (w.alloc o).heap.size = w.heap.size + 1 := by simp
  rw [hal] at hs
  have s1 : w1.heap[S]? = some (.cells #[.int .i64 s.lim, .int .i64 s.live, .int .i64 s.laid, vb, .map (some b)] 70 (0, 0)) :=
    (hg.block S (by omega) (fun e => a2 e.symm)).trans (((World.grownBy_alloc w o none).block S lS (by simp)).trans h.str)
  have gS : v'.ownBlock ≠ some S := fun e => by
    rcases hown.2 with ⟨e1, _⟩ | ⟨g', cap', cur, e1, _, hh, _⟩
    · rw [hv] at e1; cases e1
    · rw [e1] at e
      injection e with e
      subst e
      rw [s1] at hh
      injection hh with hh
      injection hh with _ hh _
      cases hh
  have gt : ∀ q, some S = some q → b ≠ q ∧ ∀ cs fr, w1.heap[q]? ≠ some (.cells cs 3 fr) := fun q e => by
    injection e with e
    subst e
    refine ⟨Ne.symm a1, fun cs fr q => ?_⟩
    rw [s1] at q
    injection q with q
    injection q with _ q _
    cases q
  have r1 : Rdy No w1 b c s.R := (h.rdy.alloc o).kept hg (fun q e => by
    refine ⟨fun e2 => a3 (by rw [e, e2]), fun cs fr q2 => ?_⟩
    obtain ⟨cur, q3⟩ := a4 q e
    have := (h.row.lt q e).2
    rw [(World.grownBy_alloc w o none).block q this (by simp), q3] at q2
    injection q2 with q2
    injection q2 with _ q2 _
    cases q2)
  have s2 := heap_setCell_same w1 S 3 _ 70 v' s1
  have r2 : Rdy No (w1.setCell ⟨S, 3, none⟩ v') b c s.R := r1.kept (gset w1 S 3 v') gt
  have r3 : Rdy No ((w1.setCell ⟨S, 3, none⟩ v').setCell ⟨S, 2, none⟩ (.int .i64 (s.laid + n))) b c s.R := r2.kept (gset _ S 2 _) (fun q e => ⟨(gt q e).1, fun cs fr q2 => by
    injection e with e
    subst e
    rw [s2] at q2
    injection q2 with q2
    injection q2 with _ q2 _
    cases q2⟩)
  have k1 : Keep No w w1 := ((Keep.refl No w).alloc o).grown hg h.nov
  refine ⟨⟨?_, ?_, r3.more (Nat.le_succ _), by have := h.len; simp; omega, h.noS, h.nob, fun q e => ?_, fun q r => ?_⟩, (k1.grown (gset w1 S 3 v') (fun q e => by cases e; exact h.noS)).grown (gset _ S 2 _) (fun q e => by cases e; exact h.noS)⟩
  · exact heap_setCell_same _ S 2 _ 70 _ s2
  · have e1 : (s.bl ++ [(n, false)]).length = s.bl.length + 1 := by simp
    show World.ownsRow _ 0 72 2 v' (s.bl ++ [(n, false)]).length (bcells (s.bl ++ [(n, false)]))
    rw [e1, bcells_app]
    exact (hown.kept (gset w1 S 3 v') (.inr gS)).kept (gset _ S 2 _) (.inr gS)
  · rw [hv] at e
    injection e with e
    subst e
    rcases hat with q | q
    · exact h.nov _ q
    · intro r
      have := h.nos _ r
      simp only at this
      omega
  · have := h.nos q r
    simp
    omega

set_option maxRecDepth 20000 in
set_option maxHeartbeats 1000000 in
theorem lay_any {No : Nat → Prop} {w : World} {S b c : Nat} {vb : Value} {s : St} (h : Hp No w S b c vb s) (hc : c ≤ 1000000) (n : Int) (h0 : 0 ≤ n) (h1 : n ≤ 400000) (hl0 : 0 ≤ s.laid) (hl1 : s.laid ≤ 1000000000000) :
    Calls Try.prog 40 #[.pointer (some ⟨S, 0, none⟩), .int .i64 n] w fun e w' => e = .returned (.int .i64 ((s.bl.length : Int) + 1)) ∧ (∃ v', Hp No w' S b (c + 1) v' { s with laid := s.laid + n, bl := s.bl ++ [(n, false)] }) ∧ Keep No w w' := by
  obtain ⟨i0, hi0, hz0, hz1, hz2⟩ := info_parts info72
  have HL : Hid (∀ w1 o g cap, (w.alloc o).grownBy w1 vb.ownBlock → w1.ownsRow 0 72 2 (.slice (some ⟨g, 0, none⟩) (s.bl.length + 1) cap) (s.bl.length + 1) (bcells s.bl ++ [.int .i64 n, .bool false]) → (vb.ownBlock = some g ∨ g = w.heap.size + 1) → _) := fun w1 o g cap hg ho hat => h.laid (v' := .slice (some ⟨g, 0, none⟩) (s.bl.length + 1) cap) n o hg g cap rfl ho hat
  have c3 := h.c3
  have c2 := h.c2
  have f3 := h.fr 3
  have f2 := h.fr 2
  obtain ⟨a1, a2, a3, a4, lS, lb⟩ := h.apart
  have hrow := h.row
  have hlen := h.len
  obtain ⟨av, cv, rfl, hcv⟩ := slice_of hrow
  have HR : Hid (w.ownsRow 0 72 2 (.slice av s.bl.length cv) s.bl.length (bcells s.bl)) := hrow
  have HC : Hid (∀ w1 o i, (w.alloc o).grownBy w1 (Value.slice av s.bl.length cv).ownBlock → w1.cell? ⟨S, i, none⟩ = w.cell? ⟨S, i, none⟩ ∧ w1.frozen? ⟨S, i, none⟩ = w.frozen? ⟨S, i, none⟩) := fun w1 o i hg =>
    ⟨(hg.cell_far ⟨S, i, none⟩ (by simp; omega) (fun e => a2 e.symm)).trans ((World.grownBy_alloc w o none).cell_far ⟨S, i, none⟩ lS (by simp)), (hg.frozen_far ⟨S, i, none⟩ (by simp; omega) (fun e => a2 e.symm)).trans ((World.grownBy_alloc w o none).frozen_far ⟨S, i, none⟩ lS (by simp))⟩
  clear h hrow a4
  generalize bcells s.bl = bc at *
  generalize s.bl.length = m at *
  go_enter Try.func40, Try.ntmps40
  go_wp2_with (at_builtin; refine wpList_append_lies _ rfl _ _ 68 rfl 0 72 i0 _ 2 16 Try.underlying68 hi0 hz0 hz1 hz2 rfl (by omega) (.slice av m cv) m bc rfl (World.ownsRow.alloc HR.out _) ⟨w.heap.size, 0, none⟩ 1 1 [.int .i64 n, .bool false] rfl rfl (World.news_of_block (cs := #[.int .i64 n, .bool false]) (t := 72) (fr := (0, 0)) (heap_alloc_new w _)) (by simp [Value.oneCell']) (by omega) (by unfold maxLen; omega) (by omega) (Nat.zero_le _) (w.heap.size + 1) (by simp) ?_; intro g cap w1 hown hgrow hat hlt; have d3 := (HC.out w1 _ 3 hgrow).1.trans c3; have e3 := (HC.out w1 _ 3 hgrow).2.trans f3; have d2 := (HC.out w1 _ 2 hgrow).1.trans c2; have e2 := (HC.out w1 _ 2 hgrow).2.trans f2)
  go_ret
  have U := HL.out w1 _ g cap hgrow hown hat
  exact ⟨ret1 (by omega), ⟨_, U.1⟩, U.2⟩

end Go.Proofs.Yteknjkofmkigoab.H
