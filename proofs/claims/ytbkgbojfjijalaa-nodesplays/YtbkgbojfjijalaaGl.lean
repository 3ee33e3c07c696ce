/- The pure part, on: what each step does to the links. -/
import Derived.Test.YtbkgbojfjijalaaG
namespace Go.Proofs.Ytbkgbojfjijalaa
variable {z : Nat} {pl : V → Nat} {ok : V → Prop} {g : G}

/-- The link that node a needs to lead where node m's leads. -/
def bey (l : Int) (m a : Nat) : Int := if l = 0 then 0 else m + l - a
theorem bey_nx {m a : Nat} {t : List Nat} (h : (m :: t).Nodup) : bey (nx m (m :: t)) m a = nx a (a :: t) := by
  cases t with
  | nil => simp [bey, nx]
  | cons b t =>
    have hb : m ≠ b := by simp at h; exact h.1.1
    have e1 : nx m (m :: b :: t) = (b : Int) - m := rfl
    have e2 : nx a (a :: b :: t) = (b : Int) - a := rfl
    rw [e1, e2, bey, if_neg (by omega)]; omega
theorem link_of {i : Nat} {k : V} (hk : g.K i = k) (hn : k ≠ nil) : link pl g i = nxt (g.C (pl k)) i := by subst hk; rw [link, if_neg hn]
theorem link_no {i : Nat} (hk : g.K i = nil) : link pl g i = 0 := by rw [link, if_pos hk]
/-- Where neither the key nor its chain has changed. -/
theorem link_same {g g' : G} {i : Nat} (hk : g'.K i = g.K i) (hc : g.K i ≠ nil → nxt (g'.C (pl (g.K i))) i = nxt (g.C (pl (g.K i))) i) : link pl g' i = link pl g i := by
  by_cases e : g.K i = nil
  · rw [link_no e, link_no (hk.trans e)]
  · rw [link_of hk e, link_of rfl e]; exact hc e
theorem link_setX (i : Nat) (v : V) (j : Nat) : link pl (setX g i v) j = link pl g j := rfl
theorem link_f (f j : Nat) : link pl { g with f := f } j = link pl g j := rfl

theorem Inv.link_ins0 (h : Inv z pl ok g) {k : V} (v : V) (hkn : k ≠ nil) (hm : pl k < z) (he : g.K (pl k) = nil) {i : Nat} (hi : i < z) :
    link pl (Proofs.Ytbkgbojfjijalaa.ins0 g (pl k) k v) i = if i = pl k then 0 else link pl g i := by
  have hC := h.empty_chain hm (.inl he)
  generalize hM : pl k = m at *
  by_cases e : i = m
  · rw [if_pos e, link_of (k := k) (by show upd g.K m k i = k; rw [e, upd_at]) hkn]
    show nxt (upd g.C m [m] (pl k)) i = 0
    rw [hM, upd_at, e]; simp [nxt, from_, nx]
  · rw [if_neg e]
    refine link_same (by show upd g.K m k i = _; rw [upd_ne _ _ e]) (fun e2 => ?_)
    have hin := h.inC i hi e2
    have : pl (g.K i) ≠ m := fun x => by rw [x, hC] at hin; cases hin
    show nxt (upd g.C m [m] (pl (g.K i))) i = _
    rw [upd_ne _ _ this]

theorem from_skip {i x : Nat} {c : List Nat} (h : x ≠ i) : from_ i (x :: c) = from_ i c := by rw [from_, if_neg h]

theorem Inv.link_ins1 (h : Inv z pl ok g) {k : V} {a : Nat} (v : V) (hkn : k ≠ nil) (hm : pl k < z) (hne : g.K (pl k) ≠ nil) (hO : pl (g.K (pl k)) = pl k) (ht : tf g.K g.f = some a) {i : Nat} :
    link pl (Proofs.Ytbkgbojfjijalaa.ins1 g (pl k) a k v) i = if i = a then bey (link pl g (pl k)) (pl k) a else if i = pl k then (a : Int) - (pl k : Nat) else link pl g i := by
  obtain ⟨t1, t2, t3⟩ := tf_some ht
  have hin := h.inC _ hm hne
  rw [hO] at hin
  generalize hM : pl k = m at *
  obtain ⟨t, hC⟩ : ∃ t, g.C m = m :: t := by
    rcases h.hd m hm with e | e
    · rw [e] at hin; cases hin
    · exact e
  have ham : a ≠ m := fun x => hne (x ▸ t2)
  have hnd := h.nd m hm
  rw [hC] at hnd
  have hlm : link pl g m = nx m (m :: t) := by rw [link_of rfl hne, hO, hC, nxt, from_, if_pos rfl]
  rw [hlm, bey_nx hnd]
  by_cases e : i = a
  · rw [if_pos e, link_of (k := k) (by show upd g.K a k i = k; rw [e, upd_at]) hkn]
    show nxt (upd g.C m _ (pl k)) i = _
    rw [hM, upd_at, hC, List.tail_cons, e, nxt, from_skip (fun x => ham x.symm), from_, if_pos rfl]
  · rw [if_neg e]
    by_cases e2 : i = m
    · rw [if_pos e2, link_of (k := g.K m) (by show upd g.K a k i = _; rw [e2, upd_ne _ _ (fun x => ham x.symm)]) hne]
      show nxt (upd g.C m _ (pl (g.K m))) i = _
      rw [hO, upd_at, e2, nxt, from_, if_pos rfl]; rfl
    · rw [if_neg e2]
      refine link_same (by show upd g.K a k i = _; rw [upd_ne _ _ e]) (fun e3 => ?_)
      show nxt (upd g.C m _ (pl (g.K i))) i = _
      by_cases e4 : pl (g.K i) = m
      · rw [e4, upd_at, hC, List.tail_cons, nxt, nxt, from_skip (fun x => e2 x.symm), from_skip (fun x => e x.symm), from_skip (fun x => e2 x.symm)]
      · rw [upd_ne _ _ e4]

theorem map_swp_id {m a : Nat} {p : List Nat} (h : m ∉ p) : p.map (swp m a) = p := by
  induction p with
  | nil => rfl
  | cons x p ih =>
    simp only [List.mem_cons, not_or] at h
    rw [List.map_cons, ih h.2, swp, if_neg (fun e => h.1 e.symm)]

/-- Whom the node that is moved out follows. -/
theorem Inv.before (h : Inv z pl ok g) (hpl : ∀ k, ok k → pl k < z) {m : Nat} (hm : m < z) (hne : g.K m ≠ nil) (hO : pl (g.K m) ≠ m) : ∃ p b q, g.C (pl (g.K m)) = p ++ b :: m :: q := by
  have hin := h.inC _ hm hne
  have ho : pl (g.K m) < z := hpl _ ((h.key _ hm).resolve_left hne)
  generalize pl (g.K m) = o at *
  obtain ⟨p, q, hc, hp⟩ := mem_split hin
  rcases List.eq_nil_or_concat p with e | ⟨p', b, e⟩
  · rcases h.hd o ho with e2 | ⟨t, e2⟩
    · rw [e2] at hin; cases hin
    · rw [hc, e] at e2; simp at e2; exact absurd e2.1.symm hO
  · exact ⟨p', b, q, by rw [hc, e]; simp⟩

theorem Inv.link_ins2 (h : Inv z pl ok g) (hpl : ∀ k, ok k → pl k < z) {k : V} {a b : Nat} {p q : List Nat} (v : V) (hkn : k ≠ nil) (hm : pl k < z) (hne : g.K (pl k) ≠ nil) (hO : pl (g.K (pl k)) ≠ pl k) (ht : tf g.K g.f = some a)
    (hC : g.C (pl (g.K (pl k))) = p ++ b :: pl k :: q) {i : Nat} (hi : i < z) :
    link pl (Proofs.Ytbkgbojfjijalaa.ins2 g (pl (g.K (pl k))) (pl k) a k v) i = if i = pl k then 0 else if i = a then bey (link pl g (pl k)) (pl k) a else if i = b then (a : Int) - b else link pl g i := by
  obtain ⟨t1, t2, t3⟩ := tf_some ht
  have hkm := (h.key _ hm).resolve_left hne
  have hCm := h.empty_chain hm (.inr hO)
  generalize hM : pl k = m at *
  have ho : pl (g.K m) < z := hpl _ hkm
  generalize hOo : pl (g.K m) = o at *
  have ham : a ≠ m := fun x => hne (x ▸ t2)
  have hnot : a ∉ g.C o := fun hx => (h.cok o ho a hx).2.1 t2
  have hnd := h.nd o ho
  rw [hC] at hnd hnot
  have hbc := h.cok o ho b (by rw [hC]; simp)
  have hnd2 := hnd
  rw [List.nodup_append] at hnd2
  obtain ⟨n1, n2, n3⟩ := hnd2
  simp only [List.nodup_cons, List.mem_cons, not_or] at n2
  obtain ⟨⟨hbm, hbq⟩, hmq, hq⟩ := n2
  have hmp : m ∉ p := fun x => n3 m x m (by simp) rfl
  have hbp : b ∉ p := fun x => n3 b x b (by simp) rfl
  simp only [List.mem_append, List.mem_cons, not_or] at hnot
  obtain ⟨hap, hab, _, haq⟩ := hnot
  have hmap : (p ++ b :: m :: q).map (swp m a) = p ++ b :: a :: q := by
    rw [List.map_append, List.map_cons, List.map_cons, map_swp_id hmp, map_swp_id hmq, swp, if_neg hbm, swp, if_pos rfl]
  have hlm : link pl g m = nx m (m :: q) := by
    rw [link_of rfl hne, hOo, hC]
    rw [show p ++ b :: m :: q = (p ++ [b]) ++ m :: q by simp]
    exact nxt_split (by simp; exact ⟨hmp, fun x => hbm x.symm⟩)
  rw [hlm, bey_nx (by simp; exact ⟨hmq, hq⟩)]
  by_cases e : i = m
  · rw [if_pos e, link_of (k := k) (by show upd (upd g.K a (g.K m)) m k i = k; rw [e, upd_at]) hkn]
    show nxt (upd (upd g.C o _) m [m] (pl k)) i = _
    rw [hM, upd_at, e]; simp [nxt, from_, nx]
  · rw [if_neg e]
    by_cases e2 : i = a
    · rw [if_pos e2, link_of (k := g.K m) (by show upd (upd g.K a (g.K m)) m k i = _; rw [e2, upd_ne _ _ ham, upd_at]) hne]
      show nxt (upd (upd g.C o ((g.C o).map (swp m a))) m [m] (pl (g.K m))) i = _
      rw [hOo, upd_ne _ _ hO, upd_at, hC, hmap, e2]
      rw [show p ++ b :: a :: q = (p ++ [b]) ++ a :: q by simp]
      exact nxt_split (by simp; exact ⟨hap, hab⟩)
    · rw [if_neg e2]
      have hK : (Proofs.Ytbkgbojfjijalaa.ins2 g o m a k v).K i = g.K i := by show upd (upd g.K a (g.K m)) m k i = _; rw [upd_ne _ _ e, upd_ne _ _ e2]
      by_cases e3 : i = b
      · subst e3
        rw [if_pos rfl, link_of hK hbc.2.1]
        show nxt (upd (upd g.C o ((g.C o).map (swp m a))) m [m] (pl (g.K i))) i = _
        rw [hbc.2.2, upd_ne _ _ hO, upd_at, hC, hmap, nxt_split hbp]; rfl
      · rw [if_neg e3]
        refine link_same hK (fun e4 => ?_)
        show nxt (upd (upd g.C o ((g.C o).map (swp m a))) m [m] (pl (g.K i))) i = _
        · have hin := h.inC i hi e4
          have n5 : pl (g.K i) ≠ m := fun x => by rw [x, hCm] at hin; cases hin
          rw [upd_ne _ _ n5]
          by_cases e5 : pl (g.K i) = o
          · rw [e5, upd_at, hC, hmap]
            rw [e5, hC] at hin
            simp only [List.mem_append, List.mem_cons] at hin
            rcases hin with hin | hin | hin | hin
            · obtain ⟨p1, p2, rfl, hp1⟩ := mem_split hin
              rw [List.append_assoc, List.append_assoc, List.cons_append, List.cons_append, nxt_split hp1, nxt_split hp1]
              cases p2 <;> rfl
            · exact absurd hin e3
            · exact absurd hin e
            · obtain ⟨q1, q2, rfl, hq1⟩ := mem_split hin
              have hip : i ∉ p := fun x => n3 i x i (by simp) rfl
              rw [show p ++ b :: a :: (q1 ++ i :: q2) = (p ++ b :: a :: q1) ++ i :: q2 by simp, show p ++ b :: m :: (q1 ++ i :: q2) = (p ++ b :: m :: q1) ++ i :: q2 by simp]
              rw [nxt_split (by simp; exact ⟨hip, e3, e2, hq1⟩), nxt_split (by simp; exact ⟨hip, e3, e, hq1⟩)]
          · rw [upd_ne _ _ e5]

/-- Room where a node has no key. -/
theorem Inv.room (h : Inv z pl ok g) {i : Nat} (hi : i < z) (he : g.K i = nil) : ∃ a, tf g.K g.f = some a := by
  cases e : tf g.K g.f with
  | some a => exact ⟨a, rfl⟩
  | none =>
    by_cases hf : g.f ≤ i
    · exact absurd he (h.up i hi hf)
    · exact absurd he (tf_none e i (by omega))

/-- An insertion keeps what stays true, and no free pointer goes up. -/
theorem Inv.ins (h : Inv z pl ok g) (hpl : ∀ k, ok k → pl k < z) {k : V} (v : V) (hk : ok k) (hkn : k ≠ nil) (hnew : ∀ i, i < z → g.K i ≠ k) : Inv z pl ok (Proofs.Ytbkgbojfjijalaa.ins pl g k v).1 ∧ (Proofs.Ytbkgbojfjijalaa.ins pl g k v).1.f ≤ g.f := by
  unfold Proofs.Ytbkgbojfjijalaa.ins
  by_cases e : g.K (pl k) = nil
  · rw [if_pos e]; exact ⟨h.ins0 v hk hkn (hpl k hk) hnew e, Nat.le_refl _⟩
  · rw [if_neg e]
    cases ht : tf g.K g.f with
    | none => exact ⟨h.none ht, Nat.zero_le _⟩
    | some a =>
      have hlt := (tf_some ht).1
      simp only
      by_cases e2 : pl (g.K (pl k)) = pl k
      · rw [if_pos e2]; exact ⟨h.ins1 v hk hkn (hpl k hk) hnew e e2 ht, by show a ≤ g.f; omega⟩
      · rw [if_neg e2]; exact ⟨h.ins2 hpl v hk hkn (hpl k hk) hnew e e2 ht, by show a ≤ g.f; omega⟩
/-- The keys and values behind an insertion that went in: one node more. -/
theorem Inv.ins_map (h : Inv z pl ok g) (hpl : ∀ k, ok k → pl k < z) {k : V} (v : V) (hk : ok k) (hb : (Proofs.Ytbkgbojfjijalaa.ins pl g k v).2 = true) :
    ∀ k' v', k' ≠ nil → ((∃ i, i < z ∧ (Proofs.Ytbkgbojfjijalaa.ins pl g k v).1.K i = k' ∧ (Proofs.Ytbkgbojfjijalaa.ins pl g k v).1.X i = v') ↔ (k' = k ∧ v' = v) ∨ ∃ i, i < z ∧ g.K i = k' ∧ g.X i = v') := by
  intro k' v' hk'
  have hm := hpl k hk
  unfold Proofs.Ytbkgbojfjijalaa.ins at hb ⊢
  generalize hM : pl k = m at *
  by_cases e : g.K m = nil
  · rw [if_pos e]
    simp only [Proofs.Ytbkgbojfjijalaa.ins0]
    constructor
    · rintro ⟨i, hi, h1, h2⟩
      by_cases q : i = m
      · rw [q, upd_at] at h1 h2; exact .inl ⟨h1.symm, h2.symm⟩
      · rw [upd_ne _ _ q] at h1 h2; exact .inr ⟨i, hi, h1, h2⟩
    · rintro (⟨rfl, rfl⟩ | ⟨i, hi, h1, h2⟩)
      · exact ⟨m, hm, upd_at _ _ _, upd_at _ _ _⟩
      · have q : i ≠ m := fun x => hk' (by rw [← h1, x, e])
        exact ⟨i, hi, by rw [upd_ne _ _ q]; exact h1, by rw [upd_ne _ _ q]; exact h2⟩
  · rw [if_neg e] at hb ⊢
    cases ht : tf g.K g.f with
    | none => rw [ht] at hb; cases hb
    | some a =>
      have hlt := tf_some ht
      have ha : a < z := Nat.lt_of_lt_of_le hlt.1 h.fle
      have ham : a ≠ m := fun x => e (x ▸ hlt.2.1)
      simp only
      by_cases e2 : pl (g.K m) = m
      · rw [if_pos e2]
        simp only [Proofs.Ytbkgbojfjijalaa.ins1]
        constructor
        · rintro ⟨i, hi, h1, h2⟩
          by_cases q : i = a
          · rw [q, upd_at] at h1 h2; exact .inl ⟨h1.symm, h2.symm⟩
          · rw [upd_ne _ _ q] at h1 h2; exact .inr ⟨i, hi, h1, h2⟩
        · rintro (⟨rfl, rfl⟩ | ⟨i, hi, h1, h2⟩)
          · exact ⟨a, ha, upd_at _ _ _, upd_at _ _ _⟩
          · have q : i ≠ a := fun x => hk' (by rw [← h1, x, hlt.2.1])
            exact ⟨i, hi, by rw [upd_ne _ _ q]; exact h1, by rw [upd_ne _ _ q]; exact h2⟩
      · rw [if_neg e2]
        simp only [Proofs.Ytbkgbojfjijalaa.ins2]
        constructor
        · rintro ⟨i, hi, h1, h2⟩
          by_cases q : i = m
          · rw [q, upd_at] at h1 h2; exact .inl ⟨h1.symm, h2.symm⟩
          · rw [upd_ne _ _ q] at h1 h2
            by_cases q2 : i = a
            · rw [q2, upd_at] at h1 h2; exact .inr ⟨m, hm, h1, h2⟩
            · rw [upd_ne _ _ q2] at h1 h2; exact .inr ⟨i, hi, h1, h2⟩
        · rintro (⟨rfl, rfl⟩ | ⟨i, hi, h1, h2⟩)
          · exact ⟨m, hm, upd_at _ _ _, upd_at _ _ _⟩
          · have q : i ≠ a := fun x => hk' (by rw [← h1, x, hlt.2.1])
            by_cases q2 : i = m
            · subst q2
              exact ⟨a, ha, by rw [upd_ne _ _ ham, upd_at]; exact h1, by rw [upd_ne _ _ ham, upd_at]; exact h2⟩
            · exact ⟨i, hi, by rw [upd_ne _ _ q2, upd_ne _ _ q]; exact h1, by rw [upd_ne _ _ q2, upd_ne _ _ q]; exact h2⟩
end Go.Proofs.Ytbkgbojfjijalaa
