/- What holds of a heap throughout: plain facts, no program. -/
import Derived.Test.YteknjkofmkigoabHb
namespace Go.Proofs.Yteknjkofmkigoab.H

/-- The cells of the blocks that are taken; of all blocks. -/
def tk : List (Int × Bool) → Int
  | [] => 0
  | p :: l => (if p.2 = true then p.1 else 0) + tk l
def tot : List (Int × Bool) → Int
  | [] => 0
  | p :: l => p.1 + tot l
theorem tk_app (l m : List (Int × Bool)) : tk (l ++ m) = tk l + tk m := by
  induction l with
  | nil => simp [tk]
  | cons p l ih => simp only [List.cons_append, tk, ih]; omega
theorem tot_app (l m : List (Int × Bool)) : tot (l ++ m) = tot l + tot m := by
  induction l with
  | nil => simp [tot]
  | cons p l ih => simp only [List.cons_append, tot, ih]; omega
theorem setT_get (l : List (Int × Bool)) (k j : Nat) (t : Bool) (hk : k < l.length) (hj : j < (setT l k t).length) : (setT l k t)[j] = if j = k then ((l[k]'hk).1, t) else l[j]'(by rw [setT_len] at hj; exact hj) := by
  simp only [setT_eq l k hk t]
  by_cases h : j = k
  · subst h; simp
  · rw [if_neg h, List.getElem_set_ne (fun e => h e.symm)]
theorem tk_set (l : List (Int × Bool)) (k : Nat) (t : Bool) (hk : k < l.length) : tk (setT l k t) = tk l - (if (l[k]'hk).2 = true then (l[k]'hk).1 else 0) + (if t = true then (l[k]'hk).1 else 0) := by
  rw [setT_eq l k hk t]
  induction l generalizing k with
  | nil => simp at hk
  | cons p l ih =>
    cases k with
    | zero => simp only [List.set_cons_zero, tk, List.getElem_cons_zero]; omega
    | succ k =>
      have := ih k (by simpa using hk)
      simp only [List.set_cons_succ, tk, List.getElem_cons_succ] at this ⊢
      omega
theorem tot_set (l : List (Int × Bool)) (k : Nat) (t : Bool) (hk : k < l.length) : tot (setT l k t) = tot l := by
  rw [setT_eq l k hk t]
  induction l generalizing k with
  | nil => simp at hk
  | cons p l ih =>
    cases k with
    | zero => simp only [List.set_cons_zero, tot, List.getElem_cons_zero]
    | succ k =>
      have := ih k (by simpa using hk)
      simp only [List.set_cons_succ, tot, List.getElem_cons_succ] at this ⊢
      omega
theorem tk_le (l : List (Int × Bool)) (h : ∀ k (hk : k < l.length), 0 ≤ (l[k]'hk).1) : 0 ≤ tk l ∧ tk l ≤ tot l := by
  induction l with
  | nil => simp [tk, tot]
  | cons p l ih =>
    have h1 := h 0 (by simp)
    have h2 := ih (fun k hk => by have := h (k + 1) (by simpa using hk); simpa using this)
    simp only [List.getElem_cons_zero] at h1
    simp only [tk, tot]
    split <;> omega
theorem tk_mem (l : List (Int × Bool)) (h : ∀ k (hk : k < l.length), 0 ≤ (l[k]'hk).1) (k : Nat) (hk : k < l.length) (ht : (l[k]'hk).2 = true) : (l[k]'hk).1 ≤ tk l := by
  have h1 := tk_set l k false hk
  have h2 := tk_le (setT l k false) (fun j hj => by
    rw [setT_get l k j false hk hj]
    split
    · exact h k hk
    · exact h j _)
  rw [if_pos ht, if_neg (by simp)] at h1
  omega
theorem tot_le (l : List (Int × Bool)) (h : ∀ k (hk : k < l.length), 1 ≤ (l[k]'hk).1 ∧ (l[k]'hk).1 ≤ 400000) : 0 ≤ tot l ∧ tot l ≤ l.length * 400000 := by
  induction l with
  | nil => simp [tot]
  | cons p l ih =>
    have h1 := h 0 (by simp)
    have h2 := ih (fun k hk => by have := h (k + 1) (by simpa using hk); simpa using this)
    simp only [List.getElem_cons_zero] at h1
    simp only [tot, List.length_cons]
    omega

/-- sp: what was spent. -/
structure Inv (sp : Int) (s : St) : Prop where
  sp0 : 0 ≤ sp
  live : s.live = sp + tk s.bl
  laid : s.laid = tot s.bl
  l1 : s.live ≤ s.lim
  l2 : s.lim ≤ 400000
  cells : ∀ k (h : k < s.bl.length), 1 ≤ (s.bl[k]'h).1 ∧ (s.bl[k]'h).1 ≤ 400000
  ids : ∀ n x, x ∈ s.R n → ∃ k : Nat, x = (k : Int) + 1 ∧ ∃ h : k < s.bl.length, s.bl[k]'h = (n, false)
  all : ∀ n (k : Nat) (h : k < s.bl.length), s.bl[k]'h = (n, false) → (k : Int) + 1 ∈ s.R n
  nodup : ∀ n, (s.R n).Nodup
theorem Inv.ok {sp : Int} {s : St} (h : Inv sp s) : Ok s := by
  have h1 := tk_le s.bl (fun k hk => by have := h.cells k hk; omega)
  have h2 := tot_le s.bl h.cells
  have := h.sp0
  have := h.live
  have := h.laid
  exact ⟨by omega, h.l1, h.l2, by omega, by omega, h.ids, h.nodup, h.cells⟩

theorem Inv.take {sp : Int} {s : St} (h : Inv sp s) (n : Int) : Inv sp (takeSt s n) := by
  by_cases hn : n < 0 ∨ s.lim - s.live < n ∨ n = 0
  · have e1 : takeSt s n = s := by
      unfold takeSt
      by_cases h0 : n < 0
      · rw [if_pos h0]
      · by_cases h1 : s.lim - s.live < n
        · rw [if_neg h0, if_pos h1]
        · rw [if_neg h0, if_neg h1, if_pos (by omega)]
    rw [e1]; exact h
  · have h0 : 1 ≤ n := by omega
    have h1 : n ≤ s.lim - s.live := by omega
    have hl := h.live
    have hl2 := h.l2
    have hsp := h.sp0
    have htk := tk_le s.bl (fun k hk => by have := h.cells k hk; omega)
    rcases List.eq_nil_or_concat (s.R n) with hR | ⟨zs, x, hR⟩
    · rw [(take_new h0 h1 hR).1]
      have hget : ∀ (j : Nat) (hj : j < (s.bl ++ [(n, true)]).length), (s.bl ++ [(n, true)])[j] = (n, true) ∨ ∃ hj2 : j < s.bl.length, (s.bl ++ [(n, true)])[j] = s.bl[j]'hj2 := fun j hj => by
        by_cases hj2 : j < s.bl.length
        · exact .inr ⟨hj2, List.getElem_append_left hj2⟩
        · left
          rw [List.getElem_append_right (by omega)]
          simp
      refine ⟨h.sp0, ?_, ?_, ?_, h.l2, fun k hk => ?_, fun m x hx => ?_, fun m k hk e => ?_, h.nodup⟩
      · show s.live + n = sp + tk (s.bl ++ [(n, true)])
        rw [tk_app]; simp only [tk, if_true]; omega
      · show s.laid + n = tot (s.bl ++ [(n, true)])
        rw [tot_app, h.laid]; simp only [tot]; omega
      · show s.live + n ≤ s.lim
        omega
      · show 1 ≤ ((s.bl ++ [(n, true)])[k]'hk).1 ∧ ((s.bl ++ [(n, true)])[k]'hk).1 ≤ 400000
        rcases hget k hk with e | ⟨hk2, e⟩
        · rw [e]; exact ⟨h0, by show n ≤ 400000; omega⟩
        · rw [e]; exact h.cells k hk2
      · obtain ⟨k, e, hk, hb⟩ := h.ids m x hx
        exact ⟨k, e, by simp; omega, by show (s.bl ++ [(n, true)])[k]'_ = _; rw [List.getElem_append_left hk]; exact hb⟩
      · rcases hget k hk with e2 | ⟨hk2, e2⟩
        · have e3 : (n, true) = (m, false) := e2.symm.trans e
          cases e3
        · exact h.all m k hk2 (e2.symm.trans e)
    · rw [List.concat_eq_append] at hR
      obtain ⟨k, rfl, hk, hbk⟩ := h.ids n x (by rw [hR]; simp)
      rw [(take_old h0 h1 hR).1]
      have hnd := h.nodup n
      rw [hR, List.nodup_append] at hnd
      have hne : ∀ j : Nat, (j : Int) + 1 ∈ zs → j ≠ k := fun j hj e => hnd.2.2 _ hj _ (List.mem_singleton.2 rfl) (by rw [e])
      have htk2 := tk_set s.bl k true hk
      rw [hbk] at htk2
      simp only [if_true, Bool.false_eq_true, if_false] at htk2
      refine ⟨h.sp0, ?_, ?_, ?_, h.l2, fun j hj => ?_, fun m x hx => ?_, fun m j hj e => ?_, fun m => ?_⟩
      · show s.live + n = sp + tk (setT s.bl k true)
        omega
      · show s.laid = tot (setT s.bl k true)
        rw [tot_set s.bl k true hk]; exact h.laid
      · show s.live + n ≤ s.lim
        omega
      · show 1 ≤ ((setT s.bl k true)[j]'hj).1 ∧ ((setT s.bl k true)[j]'hj).1 ≤ 400000
        rw [setT_get s.bl k j true hk hj]
        split
        · exact h.cells k hk
        · exact h.cells j _
      · have hx2 : x ∈ (if m = n then zs else s.R m) := hx
        have hj0 : ∃ j : Nat, x = (j : Int) + 1 ∧ j ≠ k ∧ ∃ hj : j < s.bl.length, s.bl[j]'hj = (m, false) := by
          by_cases hm : m = n
          · rw [if_pos hm] at hx2
            obtain ⟨j, e, hj, hb⟩ := h.ids n x (by rw [hR]; simp [hx2])
            exact ⟨j, e, hne j (by rw [← e]; exact hx2), hj, by rw [hm]; exact hb⟩
          · rw [if_neg hm] at hx2
            obtain ⟨j, e, hj, hb⟩ := h.ids m x hx2
            refine ⟨j, e, fun e2 => ?_, hj, hb⟩
            subst e2
            rw [hbk] at hb
            injection hb with hb
            exact hm hb.symm
        obtain ⟨j, e, hjk, hj, hb⟩ := hj0
        exact ⟨j, e, by show j < (setT s.bl k true).length; rw [setT_len]; exact hj, by show (setT s.bl k true)[j]'_ = _; rw [setT_get s.bl k j true hk, if_neg hjk]; exact hb⟩
      · have e2 : (setT s.bl k true)[j]'hj = (m, false) := e
        rw [setT_get s.bl k j true hk hj] at e2
        by_cases hjk : j = k
        · rw [if_pos hjk] at e2; injection e2 with _ e3; cases e3
        · rw [if_neg hjk] at e2
          have hm2 := h.all m j (by have := hj; simp only [setT_len] at this; exact this) e2
          show (j : Int) + 1 ∈ (if m = n then zs else s.R m)
          by_cases hm : m = n
          · rw [if_pos hm]
            rw [hm, hR] at hm2
            rcases List.mem_append.1 hm2 with q | q
            · exact q
            · simp at q; omega
          · rw [if_neg hm]; exact hm2
      · show (if m = n then zs else s.R m).Nodup
        by_cases hm : m = n
        · rw [if_pos hm]; exact hnd.1
        · rw [if_neg hm]; exact h.nodup m

theorem Inv.give {sp : Int} {s : St} (h : Inv sp s) (id : Int) : Inv sp (giveSt s id) := by
  by_cases hg : Given s id
  · obtain ⟨k, rfl⟩ : ∃ k : Nat, id = (k : Int) + 1 := ⟨id.toNat - 1, by have := hg.1; omega⟩
    have hk : k < s.bl.length := by have := hg.2.1; omega
    have ht : (s.bl[k]'hk).2 = true := by
      have := hg.2.2
      rwa [show ((k : Int) + 1).toNat - 1 = k by omega, List.getD, List.getElem?_eq_getElem hk] at this
    rw [(give_at hk ht).2]
    obtain ⟨x, hx⟩ : ∃ x, (s.bl[k]'hk).1 = x := ⟨_, rfl⟩
    have hb : s.bl[k]'hk = (x, true) := Prod.ext hx ht
    rw [hx]
    have htk2 := tk_set s.bl k false hk
    rw [hb] at htk2
    simp only [if_true, Bool.false_eq_true, if_false] at htk2
    have hl := h.live
    have hl1 := h.l1
    have hxc := h.cells k hk
    rw [hb] at hxc
    have hget : ∀ j (hj : j < s.bl.length), j ≠ k → (setT s.bl k false)[j]'(by rw [setT_len]; exact hj) = s.bl[j]'hj := fun j hj hjk => by rw [setT_get s.bl k j false hk, if_neg hjk]
    have hgk : (setT s.bl k false)[k]'(by rw [setT_len]; exact hk) = (x, false) := by rw [setT_get s.bl k k false hk, if_pos rfl, hx]
    have hnot : ∀ n, (k : Int) + 1 ∉ s.R n := fun n q => by
      obtain ⟨j, e, hj, hb2⟩ := h.ids n _ q
      have : j = k := by omega
      subst this
      rw [hb] at hb2
      injection hb2 with _ hb2
      cases hb2
    refine ⟨h.sp0, ?_, ?_, ?_, h.l2, fun j hj => ?_, fun m y hy => ?_, fun m j hj e => ?_, fun m => ?_⟩
    · show s.live - x = sp + tk (setT s.bl k false)
      omega
    · show s.laid = tot (setT s.bl k false)
      rw [tot_set s.bl k false hk]; exact h.laid
    · show s.live - x ≤ s.lim
      have := hxc.1
      simp only at this
      omega
    · show 1 ≤ ((setT s.bl k false)[j]'hj).1 ∧ ((setT s.bl k false)[j]'hj).1 ≤ 400000
      rw [setT_get s.bl k j false hk hj]
      split
      · exact h.cells k hk
      · exact h.cells j _
    · have hy2 : y ∈ (if m = x then s.R x ++ [(k : Int) + 1] else s.R m) := hy
      have hc : y ∈ s.R m ∨ (m = x ∧ y = (k : Int) + 1) := by
        by_cases hm : m = x
        · rw [if_pos hm] at hy2
          rcases List.mem_append.1 hy2 with q | q
          · rw [hm]; exact .inl q
          · simp at q; exact .inr ⟨hm, q⟩
        · rw [if_neg hm] at hy2; exact .inl hy2
      rcases hc with q | ⟨q1, q2⟩
      · obtain ⟨j, e, hj, hb2⟩ := h.ids m y q
        have hjk : j ≠ k := fun e2 => by subst e2; exact hnot m (by rw [← e]; exact q)
        exact ⟨j, e, by show j < (setT s.bl k false).length; rw [setT_len]; exact hj, (hget j hj hjk).trans hb2⟩
      · exact ⟨k, q2, by show k < (setT s.bl k false).length; rw [setT_len]; exact hk, by rw [q1]; exact hgk⟩
    · have hj2 : j < s.bl.length := by have := hj; simp only [setT_len] at this; exact this
      show (j : Int) + 1 ∈ (if m = x then s.R x ++ [(k : Int) + 1] else s.R m)
      by_cases hjk : j = k
      · subst hjk
        have : (x, false) = (m, false) := hgk.symm.trans e
        injection this with this
        rw [if_pos this.symm]; simp
      · have := h.all m j hj2 ((hget j hj2 hjk).symm.trans e)
        by_cases hm : m = x
        · rw [if_pos hm, ← hm]; simp [this]
        · rw [if_neg hm]; exact this
    · show (if m = x then s.R x ++ [(k : Int) + 1] else s.R m).Nodup
      by_cases hm : m = x
      · rw [if_pos hm, List.nodup_append]
        refine ⟨h.nodup x, by simp, fun a ha b hb2 e => ?_⟩
        rw [List.mem_singleton.1 hb2] at e
        exact hnot x (by rw [← e]; exact ha)
      · rw [if_neg hm]; exact h.nodup m
  · unfold giveSt; rw [if_neg hg]; exact h

theorem Inv.spend {sp : Int} {s : St} (h : Inv sp s) (n : Int) : Inv (if takeE s n = 0 then sp + n else sp) (spendSt s n) := by
  unfold spendSt takeE
  by_cases h0 : n < 0
  · rw [if_pos h0, if_pos h0, if_neg (by omega)]; exact h
  · by_cases h1 : s.lim - s.live < n
    · rw [if_neg h0, if_pos h1, if_neg h0, if_pos h1, if_neg (by omega)]; exact h
    · rw [if_neg h0, if_neg h1, if_neg h0, if_neg h1, if_pos rfl]
      exact ⟨by have := h.sp0; omega, by have := h.live; show s.live + n = sp + n + tk s.bl; omega, h.laid, by show s.live + n ≤ s.lim; omega, h.l2, h.cells, h.ids, h.all, h.nodup⟩

/-- A new heap. -/
def newSt (n : Int) : St := ⟨n, 0, 0, [], fun _ => []⟩
theorem Inv.new (n : Int) (h0 : 0 ≤ n) (h1 : n ≤ 400000) : Inv 0 (newSt n) :=
  ⟨by omega, rfl, rfl, h0, h1, fun k h => absurd h (by simp [newSt]), fun n x h => (by cases h), fun n k h => absurd h (by simp [newSt]), fun n => List.nodup_nil⟩
end Go.Proofs.Yteknjkofmkigoab.H
