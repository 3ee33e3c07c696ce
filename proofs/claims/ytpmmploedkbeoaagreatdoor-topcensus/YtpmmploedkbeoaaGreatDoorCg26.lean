/- Boxes of replies in a region that draws its order: whichever box is made first. -/
import Derived.Test.YtpmmploedkbeoaaGreatDoorCg25
import Derived.OrdersHeld
import Derived.BigRegion
import Derived.BigQuiet
import Derived.Deep.RegionHeld3
namespace Go.Proofs.YtpmmploedkbeoaaGreatDoor
open Go.RowKit

theorem op_new {Q : Exit → Act → World → Prop} {K : Act → World → Prop} {o : Oper} {a : Act} {w : World} (ho : o.op = .alloc 35)
    (h : K (a.put o.dst (.pointer (some ⟨w.heap.size, 0, none⟩))) (w.alloc zr)) : Oper.wp Tryz.prog o a w K Q := by
  unfold Oper.wp execOp
  have hz : Tryz.t35.zero = some (rp (.slice none 0 0) 0) := by kernel_rfl
  simp [go_sem, ho, zeroValue, hz, rp]
  exact h
theorem op_put {Q : Exit → Act → World → Prop} {K : Act → World → Prop} {o : Oper} {a : Act} {w : World} {N : Nat} {v v0 : Value} {e e0 : Int} (p x : Operand) (ho : o.op = .store 35 p x) (hd : o.dst = none) (hp : a.eval p = .pointer (some ⟨N, 0, none⟩)) (hx : a.eval x = rp v e) (hz : R11 w N v0 e0) (hv : v.oneCell' = true)
    (h : K a (set11 w N v e)) : Oper.wp Tryz.prog o a w K Q := by
  have hr := hz.store v e hv
  have ed : a.put o.dst undef = a := by rw [hd]; rfl
  unfold Oper.wp execOp
  simp only [ho, hp, hx, Sem.run_bind, Sem.run_pure, Result.andThen_ok, hr]
  show K (a.put o.dst undef) _
  rw [ed]; exact h
/-- A box: where it is made, where filled, its pointer's temporary, its value's, what it comes to hold. -/
structure Bp where
  p : Nat
  q : Nat
  d : Nat
  t : Nat
  v : Value
  e : Int
def idx (bs : List Bp) : List Nat := bs.map (·.p) ++ bs.map (·.q)
def un (L : Array Bool) (l : List Nat) : Nat := l.countP fun j => !(L.getD j true)
theorem get_set {L : Array Bool} {i j : Nat} (d : Bool) : (L.setIfInBounds i true).getD j d = if i = j ∧ i < L.size then true else L.getD j d := by
  rw [Array.getD_eq_getD_getElem?, Array.getD_eq_getD_getElem?, Array.getElem?_setIfInBounds]
  by_cases h : i = j
  · subst h
    rw [if_pos rfl]
    by_cases q : i < L.size
    · rw [if_pos q, if_pos ⟨rfl, q⟩]; rfl
    · rw [if_neg q, if_neg (fun z => q z.2), Array.getElem?_eq_none (by omega)]
  · rw [if_neg h, if_neg (fun z => h z.1)]
theorem un_set {L : Array Bool} {i : Nat} (hu : L.getD i true = false) (hs : i < L.size) : ∀ {l : List Nat}, i ∈ l → un (L.setIfInBounds i true) l + 1 ≤ un L l := by
  have mono : ∀ l : List Nat, un (L.setIfInBounds i true) l ≤ un L l := fun l => by
    unfold un
    refine List.countP_mono_left fun j _ h => ?_
    rw [get_set] at h
    split at h
    · cases h
    · exact h
  intro l
  induction l with
  | nil => intro h; cases h
  | cons j l ih =>
    intro h
    have m := mono l
    unfold un at m ih ⊢
    rw [List.countP_cons, List.countP_cons]
    by_cases e : j = i
    · subst e
      have e1 : (!(L.setIfInBounds j true).getD j true) = false := by rw [get_set, if_pos ⟨rfl, hs⟩]; rfl
      have e2 : (!L.getD j true) = true := by rw [hu]; rfl
      rw [if_neg (by rw [e1]; exact Bool.noConfusion), if_pos e2]
      omega
    · have h2 := ih ((List.mem_cons.1 h).resolve_left (fun z => e z.symm))
      have e1 : (L.setIfInBounds i true).getD j true = L.getD j true := by rw [get_set, if_neg (fun z => e z.1.symm)]
      rw [e1]
      omega
theorem mem_ready {ops : Array Oper} {L : Array Bool} {i : Nat} : i ∈ Region.ready .any ops L ↔ i < ops.size ∧ L.getD i true = false ∧ ∃ o, ops[i]? = some o ∧ ∀ e ∈ o.after.toList, Region.binds .any e = true → L.getD e.on false = true := by
  unfold Region.ready
  rw [List.mem_filter, List.mem_range]
  constructor
  · rintro ⟨h1, h2⟩
    rw [Bool.and_eq_true] at h2
    obtain ⟨h2, h3⟩ := h2
    refine ⟨h1, by simpa using h2, ?_⟩
    cases ho : ops[i]? with
    | none => rw [ho] at h3; cases h3
    | some o =>
      rw [ho] at h3
      refine ⟨o, rfl, fun e he hb => ?_⟩
      have h3 : o.after.all (fun e => !Region.binds .any e || L.getD e.on false) = true := h3
      rw [Array.all_eq_true_iff_forall_mem] at h3
      have := h3 e (by simpa using he)
      rw [hb] at this
      simpa using this
  · rintro ⟨h1, h2, o, ho, h3⟩
    refine ⟨h1, ?_⟩
    rw [h2, ho]
    show (true && o.after.all (fun e => !Region.binds .any e || L.getD e.on false)) = true
    rw [Bool.true_and, Array.all_eq_true_iff_forall_mem]
    intro e he
    cases hb : Region.binds .any e
    · rfl
    · rw [h3 e (by simpa using he) hb]; rfl
/-- What the region's text must be. -/
structure BS (ops : Array Oper) (bs : List Bp) : Prop where
  nd : (idx bs).Nodup
  ndd : (bs.map (·.d)).Nodup
  lt : ∀ j ∈ idx bs, j < ops.size
  ao : ∀ b ∈ bs, ∃ o, ops[b.p]? = some o ∧ o.op = .alloc 35 ∧ o.guard = none ∧ o.dst = some b.d
  so : ∀ b ∈ bs, ∃ o, ops[b.q]? = some o ∧ o.op = .store 35 (.tmp b.d) (.tmp b.t) ∧ o.guard = none ∧ o.dst = none ∧ ∃ e ∈ o.after.toList, e.on = b.p ∧ Region.binds .any e = true
  lo : ∀ j ∈ idx bs, ∀ o, ops[j]? = some o → ∀ e ∈ o.after.toList, Region.binds .any e = true → e.on < j
  ts : ∀ b ∈ bs, ∀ c ∈ bs, b.t ≠ c.d
/-- How far it has come. -/
structure BI (n : Nat) (bs : List Bp) (a : Act) (w : World) (L : Array Bool) (a' : Act) (w' : World) (N : Nat → Nat) : Prop where
  sz : L.size = n
  oth : ∀ j, j < n → j ∉ idx bs → L.getD j true = true
  qp : ∀ b ∈ bs, L.getD b.q true = true → L.getD b.p true = true
  sa : a'.tmps.size = a.tmps.size
  df : a'.defers = a.defers
  al : ∀ b ∈ bs, L.getD b.p true = true → a'.tmps[b.d]? = some (.pointer (some ⟨N b.p, 0, none⟩))
  ot : ∀ t, (∀ b ∈ bs, b.d = t → L.getD b.p true = false) → a'.tmps[t]? = a.tmps[t]?
  bl : Below w.heap.size w w'
  hp : ∀ b ∈ bs, L.getD b.p true = true → w.heap.size ≤ N b.p ∧ R11 w' (N b.p) (if L.getD b.q true = true then b.v else .slice none 0 0) (if L.getD b.q true = true then b.e else 0)
  ne : ∀ b ∈ bs, ∀ c ∈ bs, b.p ≠ c.p → L.getD b.p true = true → L.getD c.p true = true → N b.p ≠ N c.p
theorem nd_inj {α : Type} {f : Bp → α} : ∀ {bs : List Bp}, (bs.map f).Nodup → ∀ b ∈ bs, ∀ c ∈ bs, f b = f c → b = c
  | [], _, b, hb, _, _, _ => by cases hb
  | x :: l, h, b, hb, c, hc, e => by
    rw [List.map_cons, List.nodup_cons] at h
    rcases List.mem_cons.1 hb with hb | hb
    · rcases List.mem_cons.1 hc with hc | hc
      · rw [hb, hc]
      · exact absurd (List.mem_map.2 ⟨c, hc, by rw [← e, hb]⟩) h.1
    · rcases List.mem_cons.1 hc with hc | hc
      · exact absurd (List.mem_map.2 ⟨b, hb, by rw [e, hc]⟩) h.1
      · exact nd_inj h.2 b hb c hc e
/-- All of it. -/
theorem wpAnyH_boxes {ops : Array Oper} {bs : List Bp} {a : Act} {w : World} {Q : Exit → Act → World → Prop} {S : World → Prop} (hb : BS ops bs) (hsd : ∀ b ∈ bs, b.d < a.tmps.size) (hva : ∀ b ∈ bs, a.tmps[b.t]? = some (rp b.v b.e)) (hone : ∀ b ∈ bs, b.v.oneCell' = true)
    (hS : ∀ W, Below w.heap.size w W → S W)
    (hQ : ∀ (N : Nat → Nat) a' W, a'.defers = a.defers → (∀ b ∈ bs, a'.tmps[b.d]? = some (.pointer (some ⟨N b.p, 0, none⟩))) → (∀ t, t ∉ bs.map (·.d) → a'.tmps[t]? = a.tmps[t]?) → Below w.heap.size w W → (∀ b ∈ bs, w.heap.size ≤ N b.p ∧ R11 W (N b.p) b.v b.e) → Q .normal a' W) :
    ∀ (fuel : Nat) (L : Array Bool) (a' : Act) (w' : World) (N : Nat → Nat), un L (idx bs) ≤ fuel → BI ops.size bs a w L a' w' N → wpAnyH Tryz.prog .any ops Q S fuel L a' w' := by
  have done : ∀ (L : Array Bool) (a' : Act) (w' : World) (N : Nat → Nat), (∀ j ∈ idx bs, L.getD j true = true) → BI ops.size bs a w L a' w' N → Q .normal a' w' := fun L a' w' N hl h => by
    have lp : ∀ b ∈ bs, L.getD b.p true = true := fun b m => hl _ (List.mem_append.2 (.inl (List.mem_map.2 ⟨b, m, rfl⟩)))
    have lq : ∀ b ∈ bs, L.getD b.q true = true := fun b m => hl _ (List.mem_append.2 (.inr (List.mem_map.2 ⟨b, m, rfl⟩)))
    refine hQ N a' w' h.df (fun b m => h.al b m (lp b m)) (fun t ht => h.ot t fun b m e => absurd (List.mem_map.2 ⟨b, m, e⟩) ht) h.bl fun b m => ?_
    have := h.hp b m (lp b m)
    rwa [if_pos (lq b m), if_pos (lq b m)] at this
  have rdy : ∀ (L : Array Bool), L.size = ops.size → (∀ j, j < ops.size → j ∉ idx bs → L.getD j true = true) → Region.ready .any ops L = [] → ∀ j ∈ idx bs, L.getD j true = true := fun L hsz ho hr => by
    have key : ∀ n j, j ≤ n → j ∈ idx bs → L.getD j true = true := by
      intro n
      induction n with
      | zero =>
        intro j hj hm
        by_cases q : L.getD j true = true
        · exact q
        · exfalso
          obtain ⟨o, hoo⟩ : ∃ o, ops[j]? = some o := ⟨_, Array.getElem?_eq_getElem (hb.lt j hm)⟩
          have : j ∈ Region.ready .any ops L := mem_ready.2 ⟨hb.lt j hm, by simpa using q, o, hoo, fun e he hbi => by have := hb.lo j hm o hoo e he hbi; omega⟩
          rw [hr] at this; cases this
      | succ n ih =>
        intro j hj hm
        by_cases q : L.getD j true = true
        · exact q
        · exfalso
          obtain ⟨o, hoo⟩ : ∃ o, ops[j]? = some o := ⟨_, Array.getElem?_eq_getElem (hb.lt j hm)⟩
          have hj2 := hb.lt j hm
          have : j ∈ Region.ready .any ops L := mem_ready.2 ⟨hj2, by simpa using q, o, hoo, fun e he hbi => by
            have hl := hb.lo j hm o hoo e he hbi
            have ht : L.getD e.on true = true := by
              by_cases z : e.on ∈ idx bs
              · exact ih _ (by omega) z
              · exact ho _ (by omega) z
            rw [Array.getD_eq_getD_getElem?, Array.getElem?_eq_getElem (by omega)] at ht ⊢
            exact ht⟩
          rw [hr] at this; cases this
    exact fun j hm => key j j (Nat.le_refl _) hm
  intro fuel
  induction fuel with
  | zero =>
    intro L a' w' N hu h
    have hl : ∀ j ∈ idx bs, L.getD j true = true := fun j hj => by
      by_cases q : L.getD j true = true
      · exact q
      · have : 0 < un L (idx bs) := List.countP_pos_iff.2 ⟨j, hj, by simpa using q⟩
        omega
    refine ⟨?_, done L a' w' N hl h⟩
    cases hr : Region.ready .any ops L with
    | nil => rfl
    | cons i l =>
      exfalso
      obtain ⟨h1, h2, _⟩ := mem_ready.1 (by rw [hr]; exact List.mem_cons_self .. : i ∈ Region.ready .any ops L)
      have : L.getD i true = true := by
        by_cases z : i ∈ idx bs
        · exact hl i z
        · exact h.oth i h1 z
      rw [this] at h2; cases h2
  | succ fuel ih =>
    intro L a' w' N hu h
    refine ⟨fun hr => done L a' w' N (rdy L h.sz h.oth hr) h, fun i hi => ?_⟩
    obtain ⟨h1, h2, o, ho, hed⟩ := mem_ready.1 hi
    have hm : i ∈ idx bs := by
      by_cases z : i ∈ idx bs
      · exact z
      · rw [h.oth i h1 z] at h2; cases h2
    have hu' := un_set h2 (by rw [h.sz]; exact h1) hm
    have nds := List.nodup_append.1 hb.nd
    have oth' : ∀ j, j < ops.size → j ∉ idx bs → (L.setIfInBounds i true).getD j true = true := fun j hj hn => by rw [get_set]; split; rfl; exact h.oth j hj hn
    have sz' : (L.setIfInBounds i true).size = ops.size := by rw [Array.size_setIfInBounds]; exact h.sz
    unfold wpOp
    rw [ho]
    dsimp only
    have pq : ∀ b ∈ bs, ∀ c ∈ bs, b.p ≠ c.q := fun b mb c mc e => nds.2.2 _ (List.mem_map.2 ⟨b, mb, rfl⟩) _ (List.mem_map.2 ⟨c, mc, rfl⟩) e
    have gi : (L.setIfInBounds i true).getD i true = true := by rw [get_set]; split; rfl; rename_i z; exact absurd ⟨rfl, by rw [h.sz]; exact h1⟩ z
    have gj : ∀ j, j ≠ i → (L.setIfInBounds i true).getD j true = L.getD j true := fun j z => by rw [get_set, if_neg (fun y => z y.1.symm)]
    rcases List.mem_append.1 hm with hm | hm
    · obtain ⟨b, mb, rfl⟩ := List.mem_map.1 hm
      obtain ⟨o', ho', k1, k2, k3⟩ := hb.ao b mb
      rw [ho] at ho'
      cases ho'
      have hw : Region.wanted o (yielded ops a'.tmps) = true := by simp [Region.wanted, k2]
      rw [if_pos hw]
      refine .inl (op_new k1 ?_)
      have bl : Below w.heap.size w (w'.alloc zr) := bthen h.bl h.bl.size (b1 _ _)
      refine ⟨hS _ bl, ih _ _ _ (fun x => if x = b.p then w'.heap.size else N x) (by omega) ?_⟩
      rw [k3]
      have hpne : ∀ c ∈ bs, c ≠ b → c.p ≠ b.p := fun c mc z e => z (nd_inj nds.1 c mc b mb e)
      have hdne : ∀ c ∈ bs, c ≠ b → c.d ≠ b.d := fun c mc z e => z (nd_inj hb.ndd c mc b mb e)
      have gq : ∀ c ∈ bs, (L.setIfInBounds b.p true).getD c.q true = L.getD c.q true := fun c mc => gj _ (fun e => pq b mb c mc e.symm)
      have ts : (a'.put (some b.d) (.pointer (some ⟨w'.heap.size, 0, none⟩))).tmps = a'.tmps.setIfInBounds b.d (.pointer (some ⟨w'.heap.size, 0, none⟩)) := rfl
      have hbd : b.d < a'.tmps.size := by rw [h.sa]; exact hsd b mb
      have tto : ∀ t, t ≠ b.d → (a'.put (some b.d) (.pointer (some ⟨w'.heap.size, 0, none⟩))).tmps[t]? = a'.tmps[t]? := fun t z => by rw [ts, Array.getElem?_setIfInBounds_ne (fun e => z e.symm)]
      refine ⟨sz', oth', ?_, ?_, h.df, ?_, ?_, bl, ?_, ?_⟩
      · intro c mc q
        rw [gq c mc] at q
        by_cases z : c = b
        · rw [z]; exact gi
        · rw [gj _ (hpne c mc z)]; exact h.qp c mc q
      · rw [ts, Array.size_setIfInBounds]; exact h.sa
      · intro c mc q
        by_cases z : c = b
        · rw [z, ts, Array.getElem?_setIfInBounds, if_pos rfl, if_pos hbd, if_pos rfl]
        · rw [tto _ (hdne c mc z), if_neg (hpne c mc z)]
          rw [gj _ (hpne c mc z)] at q
          exact h.al c mc q
      · intro t ht
        have z : t ≠ b.d := fun z => by have := ht b mb z.symm; rw [gi] at this; cases this
        rw [tto t z]
        refine h.ot t fun c mc e => ?_
        have := ht c mc e
        rw [gj] at this
        · exact this
        · exact fun y => by rw [nd_inj nds.1 c mc b mb y] at e; exact z e.symm
      · intro c mc q
        rw [gq c mc]
        by_cases z : c = b
        · subst z
          have hq : ¬ L.getD c.q true = true := fun y => by rw [h.qp c mc y] at h2; cases h2
          rw [if_neg hq, if_neg hq, if_pos rfl]
          exact ⟨h.bl.size, R11.made w' _ _⟩
        · rw [if_neg (hpne c mc z)]
          rw [gj _ (hpne c mc z)] at q
          exact ⟨(h.hp c mc q).1, (h.hp c mc q).2.below (b1 _ _)⟩
      · intro c mc d md hne q1 q2
        by_cases z1 : c.p = b.p
        · have z2 : ¬ d.p = b.p := fun e => hne (z1.trans e.symm)
          rw [if_pos z1, if_neg z2]
          rw [gj _ z2] at q2
          have := (h.hp d md q2).2.lt
          omega
        · rw [if_neg z1]
          rw [gj _ z1] at q1
          have l1 := (h.hp c mc q1).2.lt
          by_cases z2 : d.p = b.p
          · rw [if_pos z2]; omega
          · rw [if_neg z2]
            rw [gj _ z2] at q2
            exact h.ne c mc d md hne q1 q2
    · obtain ⟨b, mb, rfl⟩ := List.mem_map.1 hm
      obtain ⟨o', ho', k1, k2, k3, e, he, eon, ebi⟩ := hb.so b mb
      rw [ho] at ho'
      cases ho'
      have hw : Region.wanted o (yielded ops a'.tmps) = true := by simp [Region.wanted, k2]
      rw [if_pos hw]
      have lbp : L.getD b.p true = true := by
        have z := hed e he ebi
        rw [eon] at z
        have hlt : b.p < L.size := by rw [h.sz]; exact hb.lt _ (List.mem_append.2 (.inl (List.mem_map.2 ⟨b, mb, rfl⟩)))
        rw [Array.getD_eq_getD_getElem?, Array.getElem?_eq_getElem hlt] at z ⊢
        exact z
      have hq : ¬ L.getD b.q true = true := fun y => by rw [y] at h2; cases h2
      have hz := h.hp b mb lbp
      rw [if_neg hq, if_neg hq] at hz
      have ep : a'.eval (.tmp b.d) = .pointer (some ⟨N b.p, 0, none⟩) := by
        show a'.tmps.getD b.d undef = _
        rw [Array.getD_eq_getD_getElem?, h.al b mb lbp]; rfl
      have ex : a'.eval (.tmp b.t) = rp b.v b.e := by
        show a'.tmps.getD b.t undef = _
        rw [Array.getD_eq_getD_getElem?, h.ot b.t (fun c mc z => absurd z.symm (hb.ts b mb c mc)), hva b mb]; rfl
      refine .inl (op_put _ _ k1 k3 ep ex hz.2 (hone b mb) ?_)
      have kp : Keep (fun g => g ≠ N b.p) w' (set11 w' (N b.p) b.v b.e) := keep_set11 (Keep.refl _ _) (fun q => q rfl) _ _
      have bl : Below w.heap.size w (set11 w' (N b.p) b.v b.e) := ((Keep.of h.bl).trans (kp.sub (fun g (q : g < w.heap.size) => by have := hz.1; omega))).below (Nat.le_refl _) (fun g q => q)
      have gp : ∀ c ∈ bs, (L.setIfInBounds b.q true).getD c.p true = L.getD c.p true := fun c mc => gj _ (pq c mc b mb)
      have hqne : ∀ c ∈ bs, c ≠ b → c.q ≠ b.q := fun c mc z e => z (nd_inj nds.2.1 c mc b mb e)
      refine ⟨hS _ bl, ih _ _ _ N (by omega) ⟨sz', oth', ?_, h.sa, h.df, ?_, ?_, bl, ?_, ?_⟩⟩
      · intro c mc q
        rw [gp c mc]
        by_cases z : c = b
        · rw [z]; exact lbp
        · rw [gj _ (hqne c mc z)] at q; exact h.qp c mc q
      · intro c mc q
        rw [gp c mc] at q; exact h.al c mc q
      · intro t ht
        exact h.ot t fun c mc z => by have := ht c mc z; rwa [gp c mc] at this
      · intro c mc q
        rw [gp c mc] at q
        by_cases z : c = b
        · subst z
          rw [if_pos gi, if_pos gi]
          exact ⟨hz.1, hz.2.set _ _⟩
        · rw [gj _ (hqne c mc z)]
          have hn : N c.p ≠ N b.p := h.ne c mc b mb (fun y => z (nd_inj nds.1 c mc b mb y)) q lbp
          exact ⟨(h.hp c mc q).1, (h.hp c mc q).2.kept kp hn⟩
      · intro c mc d md hne q1 q2
        rw [gp c mc] at q1
        rw [gp d md] at q2
        exact h.ne c mc d md hne q1 q2
end Go.Proofs.YtpmmploedkbeoaaGreatDoor

/- Boxes of replies in a region that draws its order: the beginning. -/
namespace Go.Proofs.YtpmmploedkbeoaaGreatDoor
open Go.RowKit

theorem fold_put {N : Nat → Nat} {a' : Act} : ∀ {bs : List Bp} {a : Act}, (bs.map (·.d)).Nodup → (∀ b ∈ bs, b.d < a.tmps.size) → a'.defers = a.defers → (∀ b ∈ bs, a'.tmps[b.d]? = some (.pointer (some ⟨N b.p, 0, none⟩))) → (∀ t, t ∉ bs.map (·.d) → a'.tmps[t]? = a.tmps[t]?) →
    a' = bs.foldl (fun x b => x.put (some b.d) (.pointer (some ⟨N b.p, 0, none⟩))) a
  | [], a, _, _, hd, _, ho => by
    obtain ⟨t', d'⟩ := a'
    obtain ⟨t, d⟩ := a
    have e : t' = t := Array.ext_getElem? fun j => ho j (by simp)
    simp only at hd
    rw [e, hd]; rfl
  | b :: l, a, hn, hs, hd, ha, ho => by
    rw [List.map_cons, List.nodup_cons] at hn
    have ts : (a.put (some b.d) (.pointer (some ⟨N b.p, 0, none⟩))).tmps = a.tmps.setIfInBounds b.d (.pointer (some ⟨N b.p, 0, none⟩)) := rfl
    rw [List.foldl_cons]
    refine fold_put hn.2 (fun c hc => by rw [ts, Array.size_setIfInBounds]; exact hs c (List.mem_cons_of_mem _ hc)) hd (fun c hc => ha c (List.mem_cons_of_mem _ hc)) fun t ht => ?_
    rw [ts]
    by_cases e : t = b.d
    · rw [e, Array.getElem?_setIfInBounds, if_pos rfl, if_pos (hs b (List.mem_cons_self ..))]
      exact ha b (List.mem_cons_self ..)
    · rw [Array.getElem?_setIfInBounds_ne (fun z => e z.symm)]
      exact ho t (by rw [List.map_cons]; exact fun z => (List.mem_cons.1 z).elim e ht)
theorem lo_of {ops : Array Oper} {l : List Nat} (h : l.all (fun j => ((ops[j]?).map fun o => o.after.all fun e => !Region.binds .any e || decide (e.on < j)).getD true) = true) : ∀ j ∈ l, ∀ o, ops[j]? = some o → ∀ e ∈ o.after.toList, Region.binds .any e = true → e.on < j := fun j hj o ho e he hb => by
  have h1 := List.all_eq_true.1 h j hj
  rw [ho] at h1
  have h1 : o.after.all (fun e => !Region.binds .any e || decide (e.on < j)) = true := h1
  rw [Array.all_eq_true_iff_forall_mem] at h1
  have := h1 e (by simpa using he)
  rw [hb] at this
  simpa using this
theorem wpAnyH_boxes0 {ops : Array Oper} {bs : List Bp} {a : Act} {w : World} {Q : Exit → Act → World → Prop} {S : World → Prop} {fuel : Nat} {L : Array Bool} (hb : BS ops bs) (hsz : L.size = ops.size) (hL : (List.range ops.size).all (fun j => L.getD j true == !(idx bs).contains j) = true) (hf : (idx bs).length ≤ fuel)
    (hsd : ∀ b ∈ bs, b.d < a.tmps.size) (hva : ∀ b ∈ bs, a.tmps[b.t]? = some (rp b.v b.e)) (hone : ∀ b ∈ bs, b.v.oneCell' = true) (hS : ∀ W, Below w.heap.size w W → S W)
    (hQ : ∀ (N : Nat → Nat) W, Below w.heap.size w W → (∀ b ∈ bs, w.heap.size ≤ N b.p ∧ R11 W (N b.p) b.v b.e) → Q .normal (bs.foldl (fun x b => x.put (some b.d) (.pointer (some ⟨N b.p, 0, none⟩))) a) W) : wpAnyH Tryz.prog .any ops Q S fuel L a w := by
  have hl : ∀ j, j < ops.size → L.getD j true = !(idx bs).contains j := fun j hj => by
    have := List.all_eq_true.1 hL j (List.mem_range.2 hj)
    simpa using this
  have hF : ∀ j ∈ idx bs, L.getD j true = false := fun j hj => by
    rw [hl j (hb.lt j hj)]
    simpa using hj
  refine wpAnyH_boxes (a := a) (w := w) hb hsd hva hone hS (fun N a' W df al ot bl hp => ?_) fuel L a w (fun _ => 0) (Nat.le_trans List.countP_le_length hf) ⟨hsz, fun j hj hn => ?_, fun b m q => ?_, rfl, rfl, fun b m q => ?_, fun t _ => rfl, Below.refl _ _, fun b m q => ?_, fun b m c mc _ q => ?_⟩
  · rw [fold_put hb.ndd hsd df al ot]
    exact hQ N W bl hp
  · rw [hl j hj]
    simpa using hn
  · rw [hF _ (List.mem_append.2 (.inr (List.mem_map.2 ⟨b, m, rfl⟩)))] at q; cases q
  · rw [hF _ (List.mem_append.2 (.inl (List.mem_map.2 ⟨b, m, rfl⟩)))] at q; cases q
  · rw [hF _ (List.mem_append.2 (.inl (List.mem_map.2 ⟨b, m, rfl⟩)))] at q; cases q
  · rw [hF _ (List.mem_append.2 (.inl (List.mem_map.2 ⟨b, m, rfl⟩)))] at q; cases q
end Go.Proofs.YtpmmploedkbeoaaGreatDoor

/- A box of a value: made and filled in a region that draws its order. -/
namespace Go.Proofs.YtpmmploedkbeoaaGreatDoor
open Go.RowKit

/-- A value as it lies in block N, to be written. -/
structure V3 (w : World) (N : Nat) (k : V) : Prop where
  c0 : w.cell? ⟨N, 0, none⟩ = some (.int .i64 k.1)
  c1 : w.cell? ⟨N, 1, none⟩ = some (.int .i64 k.2.1)
  c2 : w.cell? ⟨N, 2, none⟩ = some (.string k.2.2)
  fz : ∀ j, w.frozen? ⟨N, j, none⟩ = false
  lt : N < w.heap.size
theorem V3.block {w w' : World} {N : Nat} {k : V} (h : V3 w N k) (q : w'.heap[N]? = w.heap[N]?) (hs : w.heap.size ≤ w'.heap.size) : V3 w' N k :=
  ⟨by rw [World.cell?_of_block (w := w) q]; exact h.c0, by rw [World.cell?_of_block (w := w) q]; exact h.c1, by rw [World.cell?_of_block (w := w) q]; exact h.c2, fun j => by rw [World.frozen?_of_block (w := w) q]; exact h.fz j, Nat.lt_of_lt_of_le h.lt hs⟩
theorem V3.kept {No : Nat → Prop} {w w' : World} {N : Nat} {k : V} (h : V3 w N k) (q : Keep No w w') (hn : No N) : V3 w' N k := h.block (q.block N h.lt hn) q.size
theorem V3.below {w w' : World} {N : Nat} {k : V} (h : V3 w N k) (q : Below w.heap.size w w') : V3 w' N k := h.kept (No := fun _ => True) (Keep.of q) trivial
def cs3 (k : V) : Array Value := #[.int .i64 k.1, .int .i64 k.2.1, .string k.2.2]
def setv (w : World) (N : Nat) (k : V) : World := w.setCells N 0 (cs3 k).toList
theorem V3.made (w : World) (k : V) : V3 (w.alloc (.cells #[.int .i64 k.1, .int .i64 k.2.1, .string k.2.2] 37)) w.heap.size k := by
  have h := (MapKept.heap_alloc w (.cells #[.int .i64 k.1, .int .i64 k.2.1, .string k.2.2] 37)).1
  exact ⟨cell_of_row h 0, cell_of_row h 1, cell_of_row h 2, fun j => new_free w _ _ j, by simp⟩
theorem V3.there {w : World} {N : Nat} {k : V} (h : V3 w N k) : w.there N 0 3 := fun j hj => ⟨by
    rw [Nat.zero_add]
    obtain rfl | rfl | rfl : j = 0 ∨ j = 1 ∨ j = 2 := by omega
    · rw [h.c0]; rfl
    · rw [h.c1]; rfl
    · rw [h.c2]; rfl, by rw [Nat.zero_add]; exact h.fz j⟩
theorem V3.set {w : World} {N : Nat} {k0 : V} (h : V3 w N k0) (k : V) : V3 (setv w N k) N k := by
  have q : ∀ j u, (cs3 k).toList[j]? = some u → (setv w N k).cell? ⟨N, j, none⟩ = some u := fun j u q => by
    have := World.rangeAt_setCells_same w N 0 (cs3 k).toList h.there j u q
    rwa [Nat.zero_add] at this
  exact ⟨q 0 _ rfl, q 1 _ rfl, q 2 _ rfl, fun j => by unfold setv; rw [World.frozen?_setCells]; exact h.fz j, by
    have := h.lt
    unfold setv
    rw [Go.Proofs.YtpmmploedkbeoaaGreatDoor.size_setCells']
    exact this⟩
theorem keep_setv {No : Nat → Prop} {w w1 : World} (h : Keep No w w1) {N : Nat} (hN : ¬ No N) (k : V) : Keep No w (setv w1 N k) := by
  have q : Keep (fun g => g ≠ N) w1 (setv w1 N k) := by
    refine ⟨World.os_setCells _ _ _ _, ?_, World.output_setCells _ _ _ _, by unfold setv; rw [size_setCells']; exact Nat.le_refl _, fun g hg hn => World.heap_setCells_other _ _ _ _ hg hn⟩
    exact tape_setCells' _ _ _ _
  exact h.trans (q.sub (fun g q e => hN (e ▸ q)))
theorem V3.store {U : World} {N : Nat} {k0 : V} (h : V3 U N k0) (k : V) :
    (Instr.storeAt 37 (.pointer (some ⟨N, 0, none⟩)) (vl k.1 k.2.1 k.2.2)).run Tryz.prog U = .ok () (setv U N k) :=
  run_storeAt_mid U N 0 37 (cs3 k) h.there (by kernel_rfl) (by unfold cs3; rw [Array.all_eq_true_iff_forall_mem]; intro x hx; simp only [List.mem_toArray, List.mem_cons, List.not_mem_nil, or_false] at hx; rcases hx with h | h | h <;> rw [h] <;> rfl)
def zv : Obj := .cells #[.int .i64 0, .int .i64 0, .string ⟨#[]⟩] 37
theorem op_newv {Q : Exit → Act → World → Prop} {K : Act → World → Prop} {o : Oper} {a : Act} {w : World} (ho : o.op = .alloc 37)
    (h : K (a.put o.dst (.pointer (some ⟨w.heap.size, 0, none⟩))) (w.alloc zv)) : Oper.wp Tryz.prog o a w K Q := by
  unfold Oper.wp execOp
  have hz : Tryz.t37.zero = some (vl 0 0 ⟨#[]⟩) := by kernel_rfl
  simp [go_sem, ho, zeroValue, hz]
  exact h
theorem op_putv {Q : Exit → Act → World → Prop} {K : Act → World → Prop} {o : Oper} {a : Act} {w : World} {N : Nat} {k k0 : V} (p x : Operand) (ho : o.op = .store 37 p x) (hd : o.dst = none) (hp : a.eval p = .pointer (some ⟨N, 0, none⟩)) (hx : a.eval x = vl k.1 k.2.1 k.2.2) (hz : V3 w N k0)
    (h : K a (setv w N k)) : Oper.wp Tryz.prog o a w K Q := by
  have hr := hz.store k
  have ed : a.put o.dst undef = a := by rw [hd]; rfl
  unfold Oper.wp execOp
  simp only [ho, hp, hx, Sem.run_bind, Sem.run_pure, Result.andThen_ok, hr]
  show K (a.put o.dst undef) _
  rw [ed]; exact h
/-- A box made and filled, all else taken. -/
theorem wpAnyH_vbox {ops : Array Oper} {Q : Exit → Act → World → Prop} {S : World → Prop} {fuel : Nat} {L : Array Bool} {a : Act} {w : World} {o s : Oper} {p q d t : Nat} {k : V}
    (hp : ops[p]? = some o) (ho : o.op = .alloc 37) (gp : o.guard = none) (dp : o.dst = some d) (hq : ops[q]? = some s) (hs : s.op = .store 37 (.tmp d) (.tmp t)) (gq : s.guard = none) (dq : s.dst = none)
    (r1 : Region.ready .any ops L = [p]) (r2 : Region.ready .any ops (L.setIfInBounds p true) = [q])
    (hd : d < a.tmps.size) (hdt : d ≠ t) (ht : a.tmps[t]? = some (vl k.1 k.2.1 k.2.2)) (hS : ∀ W, Below w.heap.size w W → S W)
    (hQ : ∀ W, Below w.heap.size w W → V3 W w.heap.size k → wpAnyH Tryz.prog .any ops Q S fuel ((L.setIfInBounds p true).setIfInBounds q true) (a.put (some d) (.pointer (some ⟨w.heap.size, 0, none⟩))) W) : wpAnyH Tryz.prog .any ops Q S (fuel + 2) L a w := by
  refine wpAnyH_all r1 (by simp) fun i hi => ?_
  obtain rfl := List.mem_singleton.1 hi
  unfold wpOp
  rw [hp]
  dsimp only
  rw [if_pos (by simp [Region.wanted, gp])]
  refine .inl (op_newv ho ?_)
  rw [dp]
  have bl : Below w.heap.size w (w.alloc zv) := b1 _ _
  refine ⟨hS _ bl, ?_⟩
  refine wpAnyH_all r2 (by simp) fun i hi => ?_
  obtain rfl := List.mem_singleton.1 hi
  unfold wpOp
  rw [hq]
  dsimp only
  rw [if_pos (by simp [Region.wanted, gq])]
  have hm : V3 (w.alloc zv) w.heap.size nil := V3.made w nil
  have bs : Below w.heap.size w (setv (w.alloc zv) w.heap.size k) :=
    (keep_setv (No := fun g => g < w.heap.size) ((Keep.of bl).sub fun _ _ => trivial) (fun q => Nat.lt_irrefl _ q) k).below (Nat.le_refl _) (fun g q => q)
  refine .inl (op_putv (N := w.heap.size) (k := k) (k0 := nil) _ _ hs dq ?_ ?_ hm ?_)
  · show (a.tmps.setIfInBounds d _).getD d undef = _
    rw [Array.getD_eq_getD_getElem?, Array.getElem?_setIfInBounds, if_pos rfl, if_pos hd]
    rfl
  · show (a.tmps.setIfInBounds d _).getD t undef = _
    rw [Array.getD_eq_getD_getElem?, Array.getElem?_setIfInBounds_ne hdt, ht]
    rfl
  · exact ⟨hS _ bs, hQ _ bs (hm.set k)⟩
end Go.Proofs.YtpmmploedkbeoaaGreatDoor

/- What the host's three laws have in common. -/
namespace Go.Proofs.YtpmmploedkbeoaaGreatDoor
open Go.RowKit

theorem Pin.less {w : World} {a : Option Addr} {L m : Nat} {P : Nat → V × V} (h : Pin w a L P) (hm : m ≤ L) : Pin w a m P := ⟨fun i hi => h.at' i (by omega)⟩
/-- A pair's replies, all of them. -/
structure Pz (w : World) (R i : Nat) (t : TS) (s : H.St) (k v : V) : Prop where
  rd : Rd t s k v
  z1 : Rz w R (1 + 5 * i) (stL t) 0
  z2 : Rz w R (2 + 5 * i) (gotF t k).1 (gotF t k).2
  z3 : Rz w R (3 + 5 * i) [] (errF t s k v)
  z4 : Rz w R (4 + 5 * i) (stL (t3F t s k v).1) 0
  z5 : Rz w R (5 + 5 * i) (prl (t3F t s k v).1.p) 0
theorem Pz.below {w w' : World} {R i : Nat} {t : TS} {s : H.St} {k v : V} (h : Pz w R i t s k v) (b : Below w.heap.size w w') : Pz w' R i t s k v := ⟨h.rd, h.z1.below b, h.z2.below b, h.z3.below b, h.z4.below b, h.z5.below b⟩
theorem pz_all {w w' : World} {P : Nat → V × V} {R n : Nat} {No : Nat → Prop} {t0 : TS} {s0 : H.St} (hn : n ≤ 120) (hr : ∀ q, Rng (P q).1) (ini : Ini t0 s0) (hT : ∀ j, j ≤ 5 * n → TI (stA kdS (fsS P) t0 s0 j).1.p ∧ H.Inv 0 (stA kdS (fsS P) t0 s0 j).2)
    (hrp : ∀ j, j < 1 + 5 * n → RpA No w' w.heap.size R j (rpA kdS (fsS P) t0 s0 j).1 (rpA kdS (fsS P) t0 s0 j).2) : ∀ i, i < n → Pz w' R i (stA kdS (fsS P) t0 s0 (5 * i)).1 (stA kdS (fsS P) t0 s0 (5 * i)).2 (P i).1 (P i).2 := fun i hi => by
  have h5 := p5_of P t0 s0 i
  refine ⟨rd_at ini hr hn hi hT, ?_, ?_, ?_, ?_, ?_⟩
  · have := (hrp (1 + 5 * i) (by omega)).rz; rwa [h5.r1] at this
  · have := (hrp (2 + 5 * i) (by omega)).rz; rwa [h5.r2] at this
  · have := (hrp (3 + 5 * i) (by omega)).rz; rwa [h5.r3] at this
  · have := (hrp (4 + 5 * i) (by omega)).rz; rwa [h5.r4] at this
  · have := (hrp (5 + 5 * i) (by omega)).rz; rwa [h5.r5] at this
/-- A table's numbers in a list of five. -/
theorem stl_cells {w : World} {x : Option Addr} {t : TS} (h : Vin w x 5 (fun i => (stL t).getD i nil)) : ∃ lb off, x = some ⟨lb, off, none⟩ ∧ lb < w.heap.size ∧
    w.cell? ⟨lb, off, none⟩ = some (.int .i64 2) ∧ w.cell? ⟨lb, off + 1, none⟩ = some (.int .i64 (t.p.n : Nat)) ∧ w.cell? ⟨lb, off + 2, none⟩ = some (.string ⟨#[]⟩) ∧
    w.cell? ⟨lb, off + 3, none⟩ = some (.int .i64 2) ∧ w.cell? ⟨lb, off + 4, none⟩ = some (.int .i64 (t.p.z : Nat)) ∧ w.cell? ⟨lb, off + 5, none⟩ = some (.string ⟨#[]⟩) ∧ w.cell? ⟨lb, off + 13, none⟩ = some (.int .i64 t.pr) := by
  obtain ⟨lb, off, e, hl, a0, a1, a2⟩ := h.at' 0 (by omega)
  obtain ⟨lb', off', e', _, b0, b1, b2⟩ := h.at' 1 (by omega)
  obtain ⟨lb'', off'', e'', _, _, d1, _⟩ := h.at' 4 (by omega)
  rw [e] at e' e''
  cases e'
  cases e''
  exact ⟨lb, off, e, hl, a0, a1, a2, b0, b1, b2, d1⟩
theorem take_d {ops : Array Oper} {Q : Exit → Act → World → Prop} {S : World → Prop} {i : Nat} {oi : Oper} {d : Option Tmp} {v : Value} {fuel : Nat} {listed : Array Bool} {a : Act} {w : World} (hi : ops[i]? = some oi) (hd : oi.dst = d)
    (hs : Region.noSelect ops = true) (hf : Region.free .any ops listed i = true) (hr : (Region.ready .any ops listed).contains i = true)
    (hQ : ∀ c a w, Q (.panic c) (a.put oi.dst v) w → Q (.panic c) a w) (hy : YieldsIf Tryz.prog ops S oi v a) (hS : S w)
    (h : wpAnyH Tryz.prog .any ops Q S fuel (listed.setIfInBounds i true) (a.put d v) w) : wpAnyH Tryz.prog .any ops Q S (fuel + 1) listed a w := by
  subst hd
  exact wpAnyH_take hi hs hf hr hQ hy hS h
theorem bdrew_of {w W : World} (b : Below w.drew.heap.size w.drew W) : Below w.heap.size w W := bthen (bdrew1 w) (bdrew1 w).size b
/-- Three replies of a list, as a region reads them. -/
def S3 (R i1 i2 i3 : Nat) (v1 v2 v3 : Value) (e1 e2 e3 : Int) (W : World) : Prop := Ro W R i1 v1 e1 ∧ Ro W R i2 v2 e2 ∧ Ro W R i3 v3 e3
/-- What region 11 of TopReads reads. -/
def S11 (pb pj N lb lf : Nat) (k : V) (x : Value) (A Z : Int) (W : World) : Prop := W.cell? ⟨pb, pj, none⟩ = some (.int .i64 k.1) ∧ W.cell? ⟨pb, pj + 1, none⟩ = some (.int .i64 k.2.1) ∧ W.cell? ⟨pb, pj + 2, none⟩ = some (.string k.2.2) ∧ W.cell? ⟨N, 0, none⟩ = some x ∧ W.cell? ⟨lb, lf + 1, none⟩ = some (.int .i64 A) ∧ W.cell? ⟨lb, lf + 4, none⟩ = some (.int .i64 Z)
end Go.Proofs.YtpmmploedkbeoaaGreatDoor
